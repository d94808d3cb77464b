/- SlatePlays answers true. Written by recipes/sl6.py. -/
import Derived.Test.YtimhbpfeofdfnaaDoorSlP
import Derived.Deep.DeepCutAuto
import Derived.Deep.CutRange
import Derived.Deep.CutBlock
namespace Go.Proofs.YtimhbpfeofdfnaaDoor
open Go.RowKit Sl

/-- a slate and the document's, alike. -/
structure Like (w W : World) (X g Y : Nat) (s : St) : Prop where
  one : One1 w W X g s
  ref : RefAt W Y s
  x : Y ≠ X
  y : Y ≠ g
  b : w.heap.size ≤ Y
theorem Like.keep {w W W' : World} {X g Y : Nat} {s : St} (h : Like w W X g Y s) (hb : Below W.heap.size W W') : Like w W' X g Y s := ⟨h.one.keep hb, h.ref.keep hb, h.x, h.y, h.b⟩
/-- the code's half of a step, then the document's. -/
theorem Like.both {w W W1 W2 : World} {X g Y : Nat} {s s2 : St} (h : Like w W X g Y s) (ht : Turns W X g s2 W1) (hr : RefAt W1 Y s → RefAt W2 Y s2 ∧ Chg Y Y W1 W2) : ∃ g', Like w W2 X g' Y s2 := by
  obtain ⟨g', h1, h2, h3⟩ := h.one.turn ht
  obtain ⟨r1, r2⟩ := hr (h.ref.other h3 h.x h.y)
  have hY := h.ref.lt
  have hg : Y ≠ g' := by
    rcases h1 with rfl | h1
    · exact h.y
    · omega
  exact ⟨g', ⟨h2.at_.other r2 h.x.symm h.x.symm hg.symm hg.symm, h2.x, h2.y, h2.b.trans (r2.below h.b h.b h2.b.size)⟩, r1, h.x, hg, h.b⟩
theorem Turns.same {w w' : World} {X g : Nat} {s : St} (h : SlateAt w' X g s) (hc : Chg X g w w') : Turns w X g s w' := ⟨g, Or.inl rfl, h, hc⟩
/-- behind a round. -/
def AfterP (w : World) (Y k : Nat) (sv ev fv : Value) (wx : World) : Prop := ∃ (X g : Nat) (s : St) (u : Int), sv = .pointer (some ⟨X, 0, none⟩) ∧ ev = .int .i64 u ∧ fv = .int .i64 u ∧ Like w wx X g Y s ∧ s.t.length ≤ 300 + 366 * k ∧ s.left ≤ 9223372036854775807
theorem rise_len (s : St) : (riseS s).t.length ≤ s.t.length := keep_len s.t
theorem keep2 {W W1 : World} {Y : Nat} {a b : Value} (hb : Below W.heap.size W W1) (h : W.cell? ⟨Y, 0, none⟩ = some a ∧ W.cell? ⟨Y, 2, none⟩ = some b) : W1.cell? ⟨Y, 0, none⟩ = some a ∧ W1.cell? ⟨Y, 2, none⟩ = some b :=
  ⟨cell_keep hb h.1, cell_keep hb h.2⟩

theorem off_old {w : World} {A : Option Addr} {l : List Tx} {X g : Nat} (h : RowS w A l) (hX : w.heap.size ≤ X) (hg : w.heap.size ≤ g) : l ≠ [] → Off A X g := fun hn b o e => by
  obtain ⟨b1, off, e1, hl, _⟩ := h hn
  rw [e1] at e
  injection e with e
  injection e with e _
  subst e
  exact ⟨by omega, by omega⟩

set_option maxRecDepth 100000 in
set_option maxHeartbeats 6400000 in
set_option linter.unusedSimpArgs false in
theorem plays_any (T : Tx) (A : Option Addr) (n c : Nat) (ts : List Stp) (w : World) (he : Env w) (hr : RowT w A ts) (hs : Stps w ts) (hn : n = ts.length) (hm : ts.length ≤ maxLen) :
    Calls Tryd.prog 3 #[.string (str T), .slice A n c] w (Ans w (.bool true)) := by
  subst hn
  have HE := hide he
  have HR := hide hr
  have HS := hide hs
  have HM := hide hm
  have htz := str_size T
  clear he hr hs hm
  go_enter Tryd.func3, Tryd.ntmps3
  go_wp2_with fail
  refine (known_any w HE.out).mono ?_
  rintro e w1 ⟨rfl, hb1⟩
  have HB1 := hide hb1
  clear hb1
  go_wp2_with fail
  refine (few_any A _ c ts w1 (HR.out.keep HB1.out) (HS.out.keep HB1.out) rfl HM.out).mono ?_
  rintro e w2 ⟨rfl, rfl⟩
  cases hfew : fewB ts with
  | false =>
    clear hfew
    go_wp2_with fail
    go_ret
    exact ⟨rfl, HB1.out⟩
  | true =>
    have HF := hide ((fewB_iff ts).1 hfew)
    clear hfew
    by_cases h3 : 300 < T.length
    · go_wp2_with fail
      go_ret
      exact ⟨rfl, HB1.out⟩
    · have HT3 := hide (show T.length ≤ 300 by omega)
      have h40 : ts.length ≤ 40 := HF.out.2
      go_wp2_with fail
      refine (of_any T w2 (by have := HT3.out; omega)).mono ?_
      rintro e w3 hmk
      obtain ⟨X, g, rfl, ho, hb3, hx, hg⟩ := hmk.one HB1.out
      have HO := hide ho
      clear hmk ho hb3 hx hg
      go_wp2_with fail
      refine (rNew_any T w3).mono ?_
      rintro e w4 ⟨Y, rfl, hry, hby, hb4⟩
      have HL := hide (show Like w w4 X g Y (newS T) from ⟨HO.out.keep hb4, hry, by have := HO.out.at_.lt; omega, by have := HO.out.at_.ltg; omega, Nat.le_trans HO.out.b.size hby⟩)
      clear hry hby hb4 HO
      go_wp2_with fail
      go_loopw [5, 7] (fun sv i wr => ∃ (k X g : Nat) (s : St), k ≤ ts.length ∧ i = .int .i64 k ∧ sv = .pointer (some ⟨X, 0, none⟩) ∧ Hid (Like w wr X g Y s) ∧ Hid (s.t.length ≤ 300 + 366 * k ∧ s.left ≤ 9223372036854775807)) (fun _ i _ => ts.length - (intOf i).toNat)
      case atStart => exact ⟨0, X, g, newS T, Nat.zero_le _, rfl, rfl, HL, hide ⟨HT3.out, by simp [newS]⟩⟩
      case round =>
        clear HL
        obtain ⟨k, X, g, s, hk, rfl, rfl, hl, hz⟩ := hrel
        by_cases hlt : k < ts.length
        · obtain ⟨b, off, rfl, hb0, hcl⟩ := (HR.out.keep hl.out.one.b) (by intro h0; rw [h0] at hlt; exact absurd hlt (Nat.not_lt_zero _))
          have hi0 : (0 : Int) ≤ (k : Int) := by omega
          have hi1 : (k : Int) < (ts.length : Int) := by omega
          obtain ⟨m, hm⟩ : ∃ m, ts[k] = m := ⟨_, rfl⟩
          obtain ⟨d0, d1, d2⟩ := hcl k hlt
          rw [hm] at d0 d1 d2
          have hmm := HS.out ts[k] (List.getElem_mem hlt)
          have hmf := HF.out.1 ts[k] (List.getElem_mem hlt)
          rw [hm] at hmm hmf
          obtain ⟨wh, nn, mA, mc, ml⟩ := m
          simp only at d0 d1 d2 hmm hmf
          have HMR := hide hmm.1
          have hnn : nn ≤ 9223372036854775807 := hmm.2.2
          have HML := hide hmf
          have hml6 : ml.length ≤ 6 := hmf.1
          have HFL := hide (show (flatW ml).length ≤ 366 by have := flatW_len ml 60 hmf.2; omega)
          have HKT := hide hlt
          have HZ := hide hz.out
          have HK5 := hide (show 300 + 366 * k ≤ 20000 by omega)
          have HBS := hide (more (start wr) (.cells #[.int .i64 wh, .int .i64 nn, .slice mA ml.length mc] 32))
          have k0 : (wr.alloc (.cells #[.int .i64 wh, .int .i64 nn, .slice mA ml.length mc] 32)).cell? ⟨wr.heap.size, 0, none⟩ = some (.int .i64 wh) := by rw [World.cell?_alloc_at _ _ _ _ rfl]; rfl
          have k1 : (wr.alloc (.cells #[.int .i64 wh, .int .i64 nn, .slice mA ml.length mc] 32)).cell? ⟨wr.heap.size, 1, none⟩ = some (.int .i64 nn) := by rw [World.cell?_alloc_at _ _ _ _ rfl]; rfl
          have k2 : (wr.alloc (.cells #[.int .i64 wh, .int .i64 nn, .slice mA ml.length mc] 32)).cell? ⟨wr.heap.size, 2, none⟩ = some (.slice mA ml.length mc) := by rw [World.cell?_alloc_at _ _ _ _ rfl]; rfl
          have HL2 := hide (hl.out.keep HBS.out)
          have hzX : wr.heap.size ≠ X := by have := hl.out.one.at_.lt; omega
          have hzg : wr.heap.size ≠ g := by have := hl.out.one.at_.ltg; omega
          have hzY : wr.heap.size ≠ Y := by have := hl.out.ref.lt; omega
          clear hcl hm hmm hmf hz
          go_upto_block 2 with (fail)
          go_cut [5, 8, 9, 10, 11] from 32 to 104 (fun sv ev fv _ _ wx => AfterP w Y (k + 1) sv ev fv wx)
          case first =>
            by_cases c1 : wh ≤ 4
            · have f1 : decide (wh ≤ 4) = true := decide_eq_true c1
              have HLD := hide (HL2.out.keep (Below.drew (start _)))
              have HMW := hide (HMR.out.keep HLD.out.one.b)
              have HOF := hide (off_old HMR.out HLD.out.one.x HLD.out.one.y)
              clear c1 k0 k1 d0 d1 d2 HL2
              go_wp2_with fail
              refine wp_region_held_drew (S := fun W' => W'.cell? ⟨wr.heap.size, 2, none⟩ = some (.slice mA ml.length mc)) (by kernel_rfl) ?_ (fun hH0 => ?_)
              · exact k2
              refine' wpAnyH_take (i := 0) (oi := _) (v := ?v0) rfl (by as_aux_lemma => kernel_rfl) (by as_aux_lemma => kernel_rfl) (by as_aux_lemma => kernel_rfl) (fun _ _ _ h => h) (Or.inl ⟨by rfl, ?y0⟩) hH0 ?r0
              case y0 => (intro w hSw; (try dsimp only at hSw); go_simp; (try with_reducible rfl))
              try simp only [Act.put, List.getElem_toArray, List.getElem_cons_succ, List.getElem_cons_zero, List.setIfInBounds_toArray, List.set_cons_zero, List.set_cons_succ]
              refine' wpAnyH_take (i := 1) (oi := _) (v := ?v1) rfl (by as_aux_lemma => kernel_rfl) (by as_aux_lemma => kernel_rfl) (by as_aux_lemma => kernel_rfl) (fun _ _ _ h => h) (Or.inl ⟨by rfl, ?y1⟩) hH0 ?r1
              case y1 => (intro w hSw; (try dsimp only at hSw); go_simp; (try with_reducible rfl))
              try simp only [Act.put, List.getElem_toArray, List.getElem_cons_succ, List.getElem_cons_zero, List.setIfInBounds_toArray, List.set_cons_zero, List.set_cons_succ]
              refine' wpAnyH_take (i := 2) (oi := _) (v := ?v2) rfl (by as_aux_lemma => kernel_rfl) (by as_aux_lemma => kernel_rfl) (by as_aux_lemma => kernel_rfl) (fun _ _ _ h => h) (Or.inl ⟨by rfl, ?y2⟩) hH0 ?r2
              case y2 => (intro w hSw; (try dsimp only at hSw); go_simp; (try with_reducible rfl))
              try simp only [Act.put, List.getElem_toArray, List.getElem_cons_succ, List.getElem_cons_zero, List.setIfInBounds_toArray, List.set_cons_zero, List.set_cons_succ]
              refine' wpAnyH_take (i := 4) (oi := _) (v := ?v3) rfl (by as_aux_lemma => kernel_rfl) (by as_aux_lemma => kernel_rfl) (by as_aux_lemma => kernel_rfl) (fun _ _ _ h => h) (Or.inl ⟨by rfl, ?y3⟩) hH0 ?r3
              case y3 => (intro w hSw; (try dsimp only at hSw); go_simp; (try with_reducible rfl))
              try simp only [Act.put, List.getElem_toArray, List.getElem_cons_succ, List.getElem_cons_zero, List.setIfInBounds_toArray, List.set_cons_zero, List.set_cons_succ]
              refine' wpAnyH_take (i := 5) (oi := _) (v := ?v4) rfl (by as_aux_lemma => kernel_rfl) (by as_aux_lemma => kernel_rfl) (by as_aux_lemma => kernel_rfl) (fun _ _ _ h => h) (Or.inl ⟨by rfl, ?y4⟩) hH0 ?r4
              case y4 => (intro w hSw; (try dsimp only at hSw); go_simp; (try with_reducible rfl))
              try simp only [Act.put, List.getElem_toArray, List.getElem_cons_succ, List.getElem_cons_zero, List.setIfInBounds_toArray, List.set_cons_zero, List.set_cons_succ]
              refine' wpAnyH_take (i := 6) (oi := _) (v := ?v5) rfl (by as_aux_lemma => kernel_rfl) (by as_aux_lemma => kernel_rfl) (by as_aux_lemma => kernel_rfl) (fun _ _ _ h => h) (Or.inl ⟨by rfl, ?y5⟩) hH0 ?r5
              case y5 => (intro w hSw; (try dsimp only at hSw); go_simp; (try with_reducible rfl))
              try simp only [Act.put, List.getElem_toArray, List.getElem_cons_succ, List.getElem_cons_zero, List.setIfInBounds_toArray, List.set_cons_zero, List.set_cons_succ]
              refine wpAnyH_ready (rs := [3]) (by as_aux_lemma => kernel_rfl) (by simp) ?_
              refine AllReadyH.cons (o := _) rfl (fun K hK => ?_) AllReadyH.nil
              go_simp
              refine (sWrite_any X g s mA _ mc ml _ HLD.out.one.at_ HMW.out HOF.out rfl (by omega) (by have := HZ.out.1; have := HK5.out; have := HFL.out; omega) HZ.out.2).mono ?_
              rintro e w5 ⟨rfl, ht5⟩
              obtain ⟨g5, hg5, hs5, hc5⟩ := ht5
              have HT5 := hide (show Turns _ X g (writeS s ml) w5 from ⟨g5, hg5, hs5, hc5⟩)
              have HC5 := hide hc5
              have HM5 := hide (rowS_chg HMW.out hc5 HOF.out)
              clear hg5 hs5
              refine hK.out _ _ (hc5.cell hH0 hzX hzg) (fun hN => ?_)
              clear hK K hH0
              have hH1 := hN
              clear hN
              try simp only [Act.put, List.getElem_toArray, List.getElem_cons_succ, List.getElem_cons_zero, List.setIfInBounds_toArray, List.set_cons_zero, List.set_cons_succ]
              refine wpAnyH_ready (rs := [7]) (by as_aux_lemma => kernel_rfl) (by simp) ?_
              refine AllReadyH.cons (o := _) rfl (fun K hK => ?_) AllReadyH.nil
              go_simp
              refine (rWrite_any Y s mA _ mc ml w5 (HLD.out.ref.other HC5.out HLD.out.x HLD.out.y) HM5.out rfl (by omega) (by have := HZ.out.1; have := HK5.out; have := HFL.out; omega) HZ.out.2).mono ?_
              rintro e w6 ⟨rfl, h6, hc6⟩
              have HJ6 := hide (show RefAt w6 Y (writeS s ml) ∧ Chg Y Y w5 w6 from ⟨h6, hc6⟩)
              clear h6
              refine hK.out _ _ (hc6.cell hH1 hzY hzY) (fun hN => ?_)
              clear hK K hH1
              have hH2 := hN
              clear hN
              try simp only [Act.put, List.getElem_toArray, List.getElem_cons_succ, List.getElem_cons_zero, List.setIfInBounds_toArray, List.set_cons_zero, List.set_cons_succ]
              refine' wpAnyH_take (i := 8) (oi := _) (v := ?v6) rfl (by as_aux_lemma => kernel_rfl) (by as_aux_lemma => kernel_rfl) (by as_aux_lemma => kernel_rfl) (fun _ _ _ h => h) (Or.inl ⟨by rfl, ?y6⟩) hH2 ?r6
              case y6 => (intro w hSw; (try dsimp only at hSw); go_simp; (try with_reducible rfl))
              try simp only [Act.put, List.getElem_toArray, List.getElem_cons_succ, List.getElem_cons_zero, List.setIfInBounds_toArray, List.set_cons_zero, List.set_cons_succ]
              refine' wpAnyH_take (i := 9) (oi := _) (v := ?v7) rfl (by as_aux_lemma => kernel_rfl) (by as_aux_lemma => kernel_rfl) (by as_aux_lemma => kernel_rfl) (fun _ _ _ h => h) (Or.inl ⟨by rfl, ?y7⟩) hH2 ?r7
              case y7 => (intro w hSw; (try dsimp only at hSw); go_simp; (try with_reducible rfl))
              try simp only [Act.put, List.getElem_toArray, List.getElem_cons_succ, List.getElem_cons_zero, List.setIfInBounds_toArray, List.set_cons_zero, List.set_cons_succ]
              refine wpAnyH_done (by as_aux_lemma => kernel_rfl) ?_ _
              obtain ⟨g7, hl7⟩ := HLD.out.both HT5.out (fun _ => HJ6.out)
              have HL7 := hide hl7
              have HZ7 := hide (show (writeS s ml).t.length ≤ 300 + 366 * (k + 1) ∧ (writeS s ml).left ≤ 9223372036854775807 from ⟨by have h1 := HZ.out.1; have h2 := HFL.out; have h3 := write_len s ml; omega, by have h1 := HZ.out.2; have h2 := write_left s ml; omega⟩)
              clear hl7 HT5 HC5 HM5 HJ6 HLD HMW HOF k2
              go_wp2_with fail
              go_meet
              exact ⟨X, g7, writeS s ml, (writeN s ml : Int), rfl, rfl, rfl, HL7.out, HZ7.out.1, HZ7.out.2⟩
            · have f1 : decide (wh ≤ 4) = false := decide_eq_false c1
              by_cases c2 : wh = 5
              · have f2 : (wh == 5) = true := beq_iff_eq.2 c2
                clear c1 c2
                go_wp2_with fail
                refine (limit_any X g s nn _ HL2.out.one.at_).mono ?_
                rintro e w5 ⟨rfl, h5, c5⟩
                have q1 := c5.cell k1 hzX hzg
                have HC5 := hide c5
                have H5 := hide h5
                clear c5 h5 k0 k1 k2 d0 d1 d2
                go_wp2_with fail
                refine (rLimit_any Y s nn w5 (HL2.out.ref.other HC5.out HL2.out.x HL2.out.y)).mono ?_
                rintro e w6 ⟨rfl, h6, c6⟩
                obtain ⟨g7, hl7⟩ := HL2.out.both (Turns.same H5.out HC5.out) (fun _ => ⟨h6, c6⟩)
                have HL7 := hide hl7
                have HZ7 := hide (show (limitS s nn).t.length ≤ 300 + 366 * (k + 1) ∧ (limitS s nn).left ≤ 9223372036854775807 from ⟨by have := HZ.out.1; show s.t.length ≤ _; omega, by show nn.toNat ≤ _; omega⟩)
                clear hl7 h6 c6 q1 HL2 H5 HC5
                go_wp2_with fail
                go_meet
                exact ⟨X, g7, limitS s nn, 0, rfl, rfl, rfl, HL7.out, HZ7.out.1, HZ7.out.2⟩
              · have f2 : (wh == 5) = false := beq_eq_false_iff_ne.2 c2
                by_cases c3 : wh = 6
                · have f3 : (wh == 6) = true := beq_iff_eq.2 c3
                  clear c1 c2 c3
                  go_wp2_with fail
                  refine (rise_any X g s _ HL2.out.one.at_ (by have := HZ.out.1; have := HK5.out; omega)).mono ?_
                  rintro e w5 ⟨rfl, h5, c5⟩
                  have HC5 := hide c5
                  have H5 := hide h5
                  clear c5 h5 k0 k1 k2 d0 d1 d2
                  go_wp2_with fail
                  refine (rRise_any Y s w5 (HL2.out.ref.other HC5.out HL2.out.x HL2.out.y) (by have := HZ.out.1; have := HK5.out; omega)).mono ?_
                  rintro e w6 ⟨rfl, h6, c6⟩
                  obtain ⟨g7, hl7⟩ := HL2.out.both (Turns.same H5.out HC5.out) (fun _ => ⟨h6, c6⟩)
                  have HL7 := hide hl7
                  have HZ7 := hide (show (riseS s).t.length ≤ 300 + 366 * (k + 1) ∧ (riseS s).left ≤ 9223372036854775807 from ⟨by have := HZ.out.1; have := rise_len s; omega, Nat.zero_le _⟩)
                  clear hl7 h6 c6 HL2 H5 HC5
                  go_wp2_with fail
                  go_meet
                  exact ⟨X, g7, riseS s, 0, rfl, rfl, rfl, HL7.out, HZ7.out.1, HZ7.out.2⟩
                · have f3 : (wh == 6) = false := beq_eq_false_iff_ne.2 c3
                  clear c1 c2 c3
                  go_wp2_with fail
                  refine (copy_any X g s _ HL2.out.one.at_ (by have := HZ.out.1; have := HK5.out; omega)).mono ?_
                  rintro e w5 hmk
                  obtain ⟨X5, g5, rfl, ho5, hb5, hx5, hg5⟩ := hmk.one HL2.out.one.b
                  have HA5 := hide (apart_new HL2.out.one hx5 hg5)
                  have HO5 := hide ho5
                  have HL5 := hide (HL2.out.keep hb5)
                  have HY5 := hide (show Y ≠ X5 ∧ Y ≠ g5 by have := HL2.out.ref.lt; omega)
                  clear hmk ho5 hb5 hx5 hg5 k0 k1 k2 d0 d1 d2 HL2
                  go_wp2_with fail
                  refine (rise_any X g s _ HL5.out.one.at_ (by have := HZ.out.1; have := HK5.out; omega)).mono ?_
                  rintro e w6 ⟨rfl, h6, c6⟩
                  have HO6 := hide (HL5.out.one.chg h6 c6)
                  have HP6 := hide (HO5.out.other c6 HA5.out HL5.out.one.x HL5.out.one.y (Or.inl rfl))
                  have HR6 := hide (HL5.out.ref.other c6 HL5.out.x HL5.out.y)
                  have HXY := hide (show Y ≠ X ∧ Y ≠ g ∧ w.heap.size ≤ Y from ⟨HL5.out.x, HL5.out.y, HL5.out.b⟩)
                  clear h6 c6 HL5 HO5 HA5
                  have HP := hide (rowS_one w6 [111, 116, 104, 101, 114])
                  have HFF := hide (off_new HO6.out.at_)
                  have HO7 := hide (HO6.out.keep (more (start w6) (.cells #[.string (str [111, 116, 104, 101, 114])] 9)))
                  have HP7 := hide (HP6.out.1.keep (more (start w6) (.cells #[.string (str [111, 116, 104, 101, 114])] 9)))
                  have HR7 := hide (HR6.out.keep (more (start w6) (.cells #[.string (str [111, 116, 104, 101, 114])] 9)))
                  have hzr := rise_len s
                  go_wp2_with fail
                  refine (sWrite_any X g (riseS s) _ _ _ [[111, 116, 104, 101, 114]] _ HO7.out.at_ HP.out (fun _ => HFF.out) rfl (by simp) (by have := HZ.out.1; have := HK5.out; have e9 : (flatW [[111, 116, 104, 101, 114]]).length = 6 := rfl; omega) (Nat.zero_le _)).mono ?_
                  rintro e w8 ⟨rfl, ht8⟩
                  obtain ⟨g8, hg8, ho8, hc8⟩ := HO7.out.turn ht8
                  have HP8 := hide (HP7.out.other hc8 HP6.out.2 HO7.out.x HO7.out.y hg8)
                  have HR8 := hide (HR7.out.other hc8 HXY.out.1 HXY.out.2.1)
                  have HL8 := hide (show Like w w8 X5 g5 Y s from ⟨HP8.out.1, HR8.out, HY5.out.1, HY5.out.2, HXY.out.2.2⟩)
                  have HZ8 := hide (show s.t.length ≤ 300 + 366 * (k + 1) ∧ s.left ≤ 9223372036854775807 from ⟨by have := HZ.out.1; omega, HZ.out.2⟩)
                  clear ht8 hg8 ho8 hc8 HP8 HR8 HP7 HR7 HO7 HFF HP HP6 HO6 HR6 hzr
                  go_wp2_with fail
                  go_meet
                  exact ⟨X5, g5, s, 0, rfl, rfl, rfl, HL8.out, HZ8.out.1, HZ8.out.2⟩
          case rest =>
            clear HL2 k0 k1 k2 d0 d1 d2 hzX hzg HZ HBS
            obtain ⟨X, g, s, u, rfl, rfl, rfl, hl9, hz9, hz8⟩ := hcut
            have HLC := hide (hl9.keep (Below.drew (start _)))
            have HZ := hide (show s.t.length ≤ 300 + 366 * (k + 1) ∧ s.left ≤ 9223372036854775807 from ⟨hz9, hz8⟩)
            have HK6 := hide (show 300 + 366 * (k + 1) ≤ 20000 by have := HKT.out; omega)
            clear hl9 hz9 hz8
            go_wp2_with fail
            refine wp_region_held_drew (S := fun W' => W'.cell? ⟨Y, 0, none⟩ = some (.string (str s.t)) ∧ W'.cell? ⟨Y, 2, none⟩ = some (.bool s.off)) (by kernel_rfl) ?_ (fun hH0 => ?_)
            · exact ⟨HLC.out.ref.textc, HLC.out.ref.offc⟩
            refine' wpAnyH_take (i := 0) (oi := _) (v := ?v300) rfl (by as_aux_lemma => kernel_rfl) (by as_aux_lemma => kernel_rfl) (by as_aux_lemma => kernel_rfl) (fun _ _ _ h => h) (Or.inl ⟨by rfl, ?y300⟩) hH0 ?r300
            case y300 => (intro w hSw; (try dsimp only at hSw); go_simp; (try with_reducible rfl))
            try simp only [Act.put, List.getElem_toArray, List.getElem_cons_succ, List.getElem_cons_zero, List.setIfInBounds_toArray, List.set_cons_zero, List.set_cons_succ]
            refine' wpAnyH_take (i := 1) (oi := _) (v := ?v301) rfl (by as_aux_lemma => kernel_rfl) (by as_aux_lemma => kernel_rfl) (by as_aux_lemma => kernel_rfl) (fun _ _ _ h => h) (Or.inl ⟨by rfl, ?y301⟩) hH0 ?r301
            case y301 => (intro w hSw; (try dsimp only at hSw); go_simp; (try with_reducible rfl))
            try simp only [Act.put, List.getElem_toArray, List.getElem_cons_succ, List.getElem_cons_zero, List.setIfInBounds_toArray, List.set_cons_zero, List.set_cons_succ]
            refine' wpAnyH_take (i := 2) (oi := _) (v := (.bool false)) rfl (by as_aux_lemma => kernel_rfl) (by as_aux_lemma => kernel_rfl) (by as_aux_lemma => kernel_rfl) (fun _ _ _ h => h) (Or.inl ⟨by rfl, ?y302⟩) hH0 ?r302
            case y302 => (intro w hSw; (try dsimp only at hSw); go_simp; (try simp))
            try simp only [Act.put, List.getElem_toArray, List.getElem_cons_succ, List.getElem_cons_zero, List.setIfInBounds_toArray, List.set_cons_zero, List.set_cons_succ]
            refine' wpAnyH_take (i := 3) (oi := _) (v := ?v303) rfl (by as_aux_lemma => kernel_rfl) (by as_aux_lemma => kernel_rfl) (by as_aux_lemma => kernel_rfl) (fun _ _ _ h => h) (Or.inl ⟨by rfl, ?y303⟩) hH0 ?r303
            case y303 => (intro w hSw; (try dsimp only at hSw); go_simp; (try with_reducible rfl))
            try simp only [Act.put, List.getElem_toArray, List.getElem_cons_succ, List.getElem_cons_zero, List.setIfInBounds_toArray, List.set_cons_zero, List.set_cons_succ]
            refine' wpAnyH_take (i := 4) (oi := _) (v := ?v304) rfl (by as_aux_lemma => kernel_rfl) (by as_aux_lemma => kernel_rfl) (by as_aux_lemma => kernel_rfl) (fun _ _ _ h => h) (Or.inl ⟨by rfl, ?y304⟩) hH0 ?r304
            case y304 => (intro w hSw; (try dsimp only at hSw); go_simp; (try with_reducible rfl))
            try simp only [Act.put, List.getElem_toArray, List.getElem_cons_succ, List.getElem_cons_zero, List.setIfInBounds_toArray, List.set_cons_zero, List.set_cons_succ]
            refine' wpAnyH_take (i := 6) (oi := _) (v := ?v305) rfl (by as_aux_lemma => kernel_rfl) (by as_aux_lemma => kernel_rfl) (by as_aux_lemma => kernel_rfl) (fun _ _ _ h => h) (Or.inl ⟨by rfl, ?y305⟩) hH0 ?r305
            case y305 => (intro w hSw; (try dsimp only at hSw); go_simp; (try with_reducible rfl))
            try simp only [Act.put, List.getElem_toArray, List.getElem_cons_succ, List.getElem_cons_zero, List.setIfInBounds_toArray, List.set_cons_zero, List.set_cons_succ]
            refine' wpAnyH_take (i := 7) (oi := _) (v := ?v306) rfl (by as_aux_lemma => kernel_rfl) (by as_aux_lemma => kernel_rfl) (by as_aux_lemma => kernel_rfl) (fun _ _ _ h => h) (Or.inl ⟨by rfl, ?y306⟩) hH0 ?r306
            case y306 => (intro w hSw; (try dsimp only at hSw); go_simp; (try with_reducible rfl))
            try simp only [Act.put, List.getElem_toArray, List.getElem_cons_succ, List.getElem_cons_zero, List.setIfInBounds_toArray, List.set_cons_zero, List.set_cons_succ]
            refine' wpAnyH_take (i := 8) (oi := _) (v := ?v307) rfl (by as_aux_lemma => kernel_rfl) (by as_aux_lemma => kernel_rfl) (by as_aux_lemma => kernel_rfl) (fun _ _ _ h => h) (Or.inl ⟨by rfl, ?y307⟩) hH0 ?r307
            case y307 => (intro w hSw; (try dsimp only at hSw); go_simp; (try with_reducible rfl))
            try simp only [Act.put, List.getElem_toArray, List.getElem_cons_succ, List.getElem_cons_zero, List.setIfInBounds_toArray, List.set_cons_zero, List.set_cons_succ]
            refine' wpAnyH_take (i := 9) (oi := _) (v := ?v308) rfl (by as_aux_lemma => kernel_rfl) (by as_aux_lemma => kernel_rfl) (by as_aux_lemma => kernel_rfl) (fun _ _ _ h => h) (Or.inl ⟨by rfl, ?y308⟩) hH0 ?r308
            case y308 => (intro w hSw; (try dsimp only at hSw); go_simp; (try with_reducible rfl))
            try simp only [Act.put, List.getElem_toArray, List.getElem_cons_succ, List.getElem_cons_zero, List.setIfInBounds_toArray, List.set_cons_zero, List.set_cons_succ]
            refine wpAnyH_ready (rs := [5]) (by as_aux_lemma => kernel_rfl) (by simp) ?_
            refine AllReadyH.cons (o := _) rfl (fun K hK => ?_) AllReadyH.nil
            go_simp
            refine (text_any X g s _ HLC.out.one.at_).mono ?_
            rintro e v5 ⟨rfl, rfl⟩
            refine hK.out _ _ (hH0) (fun hN => ?_)
            clear hK K hH0
            have hH1 := hN
            clear hN
            try simp only [Act.put, List.getElem_toArray, List.getElem_cons_succ, List.getElem_cons_zero, List.setIfInBounds_toArray, List.set_cons_zero, List.set_cons_succ]
            refine' wpAnyH_take (i := 10) (oi := _) (v := (.bool false)) rfl (by as_aux_lemma => kernel_rfl) (by as_aux_lemma => kernel_rfl) (by as_aux_lemma => kernel_rfl) (fun _ _ _ h => h) (Or.inl ⟨by rfl, ?y309⟩) hH1 ?r309
            case y309 => (intro w hSw; (try dsimp only at hSw); go_simp; (try simp))
            try simp only [Act.put, List.getElem_toArray, List.getElem_cons_succ, List.getElem_cons_zero, List.setIfInBounds_toArray, List.set_cons_zero, List.set_cons_succ]
            refine' wpAnyH_take (i := 11) (oi := _) (v := ?v310) rfl (by as_aux_lemma => kernel_rfl) (by as_aux_lemma => kernel_rfl) (by as_aux_lemma => kernel_rfl) (fun _ _ _ h => h) (Or.inl ⟨by rfl, ?y310⟩) hH1 ?r310
            case y310 => (intro w hSw; (try dsimp only at hSw); go_simp; (try with_reducible rfl))
            try simp only [Act.put, List.getElem_toArray, List.getElem_cons_succ, List.getElem_cons_zero, List.setIfInBounds_toArray, List.set_cons_zero, List.set_cons_succ]
            refine' wpAnyH_take (i := 12) (oi := _) (v := ?v311) rfl (by as_aux_lemma => kernel_rfl) (by as_aux_lemma => kernel_rfl) (by as_aux_lemma => kernel_rfl) (fun _ _ _ h => h) (Or.inl ⟨by rfl, ?y311⟩) hH1 ?r311
            case y311 => (intro w hSw; (try dsimp only at hSw); go_simp; (try with_reducible rfl))
            try simp only [Act.put, List.getElem_toArray, List.getElem_cons_succ, List.getElem_cons_zero, List.setIfInBounds_toArray, List.set_cons_zero, List.set_cons_succ]
            refine' wpAnyH_take (i := 13) (oi := _) (v := ?v312) rfl (by as_aux_lemma => kernel_rfl) (by as_aux_lemma => kernel_rfl) (by as_aux_lemma => kernel_rfl) (fun _ _ _ h => h) (Or.inl ⟨by rfl, ?y312⟩) hH1 ?r312
            case y312 => (intro w hSw; (try dsimp only at hSw); go_simp; (try with_reducible rfl))
            try simp only [Act.put, List.getElem_toArray, List.getElem_cons_succ, List.getElem_cons_zero, List.setIfInBounds_toArray, List.set_cons_zero, List.set_cons_succ]
            refine' wpAnyH_take (i := 15) (oi := _) (v := ?v313) rfl (by as_aux_lemma => kernel_rfl) (by as_aux_lemma => kernel_rfl) (by as_aux_lemma => kernel_rfl) (fun _ _ _ h => h) (Or.inl ⟨by rfl, ?y313⟩) hH1 ?r313
            case y313 => (intro w hSw; (try dsimp only at hSw); go_simp; (try with_reducible rfl))
            try simp only [Act.put, List.getElem_toArray, List.getElem_cons_succ, List.getElem_cons_zero, List.setIfInBounds_toArray, List.set_cons_zero, List.set_cons_succ]
            refine' wpAnyH_take (i := 16) (oi := _) (v := ?v314) rfl (by as_aux_lemma => kernel_rfl) (by as_aux_lemma => kernel_rfl) (by as_aux_lemma => kernel_rfl) (fun _ _ _ h => h) (Or.inl ⟨by rfl, ?y314⟩) hH1 ?r314
            case y314 => (intro w hSw; (try dsimp only at hSw); go_simp; (try with_reducible rfl))
            try simp only [Act.put, List.getElem_toArray, List.getElem_cons_succ, List.getElem_cons_zero, List.setIfInBounds_toArray, List.set_cons_zero, List.set_cons_succ]
            refine' wpAnyH_take (i := 17) (oi := _) (v := ?v315) rfl (by as_aux_lemma => kernel_rfl) (by as_aux_lemma => kernel_rfl) (by as_aux_lemma => kernel_rfl) (fun _ _ _ h => h) (Or.inl ⟨by rfl, ?y315⟩) hH1 ?r315
            case y315 => (intro w hSw; (try dsimp only at hSw); go_simp; (try with_reducible rfl))
            try simp only [Act.put, List.getElem_toArray, List.getElem_cons_succ, List.getElem_cons_zero, List.setIfInBounds_toArray, List.set_cons_zero, List.set_cons_succ]
            refine' wpAnyH_take (i := 18) (oi := _) (v := ?v316) rfl (by as_aux_lemma => kernel_rfl) (by as_aux_lemma => kernel_rfl) (by as_aux_lemma => kernel_rfl) (fun _ _ _ h => h) (Or.inl ⟨by rfl, ?y316⟩) hH1 ?r316
            case y316 => (intro w hSw; (try dsimp only at hSw); go_simp; (try with_reducible rfl))
            try simp only [Act.put, List.getElem_toArray, List.getElem_cons_succ, List.getElem_cons_zero, List.setIfInBounds_toArray, List.set_cons_zero, List.set_cons_succ]
            refine wpAnyH_ready (rs := [14]) (by as_aux_lemma => kernel_rfl) (by simp) ?_
            refine AllReadyH.cons (o := _) rfl (fun K hK => ?_) AllReadyH.nil
            go_simp
            refine (on_any X g s _ HLC.out.one.at_).mono ?_
            rintro e v14 ⟨rfl, rfl⟩
            refine hK.out _ _ (hH1) (fun hN => ?_)
            clear hK K hH1
            have hH2 := hN
            clear hN
            try simp only [Act.put, List.getElem_toArray, List.getElem_cons_succ, List.getElem_cons_zero, List.setIfInBounds_toArray, List.set_cons_zero, List.set_cons_succ]
            refine' wpAnyH_take (i := 19) (oi := _) (v := (.bool false)) rfl (by as_aux_lemma => kernel_rfl) (by as_aux_lemma => kernel_rfl) (by as_aux_lemma => kernel_rfl) (fun _ _ _ h => h) (Or.inl ⟨by rfl, ?y317⟩) hH2 ?r317
            case y317 => (intro w hSw; (try dsimp only at hSw); go_simp; (first | done | (cases s.off <;> simp) | simp))
            try simp only [Act.put, List.getElem_toArray, List.getElem_cons_succ, List.getElem_cons_zero, List.setIfInBounds_toArray, List.set_cons_zero, List.set_cons_succ]
            refine' wpAnyH_take (i := 20) (oi := _) (v := ?v318) rfl (by as_aux_lemma => kernel_rfl) (by as_aux_lemma => kernel_rfl) (by as_aux_lemma => kernel_rfl) (fun _ _ _ h => h) (Or.inl ⟨by rfl, ?y318⟩) hH2 ?r318
            case y318 => (intro w hSw; (try dsimp only at hSw); go_simp; (try with_reducible rfl))
            try simp only [Act.put, List.getElem_toArray, List.getElem_cons_succ, List.getElem_cons_zero, List.setIfInBounds_toArray, List.set_cons_zero, List.set_cons_succ]
            refine' wpAnyH_take (i := 21) (oi := _) (v := ?v319) rfl (by as_aux_lemma => kernel_rfl) (by as_aux_lemma => kernel_rfl) (by as_aux_lemma => kernel_rfl) (fun _ _ _ h => h) (Or.inl ⟨by rfl, ?y319⟩) hH2 ?r319
            case y319 => (intro w hSw; (try dsimp only at hSw); go_simp; (try with_reducible rfl))
            try simp only [Act.put, List.getElem_toArray, List.getElem_cons_succ, List.getElem_cons_zero, List.setIfInBounds_toArray, List.set_cons_zero, List.set_cons_succ]
            refine' wpAnyH_take (i := 22) (oi := _) (v := ?v320) rfl (by as_aux_lemma => kernel_rfl) (by as_aux_lemma => kernel_rfl) (by as_aux_lemma => kernel_rfl) (fun _ _ _ h => h) (Or.inl ⟨by rfl, ?y320⟩) hH2 ?r320
            case y320 => (intro w hSw; (try dsimp only at hSw); go_simp; (try with_reducible rfl))
            try simp only [Act.put, List.getElem_toArray, List.getElem_cons_succ, List.getElem_cons_zero, List.setIfInBounds_toArray, List.set_cons_zero, List.set_cons_succ]
            refine' wpAnyH_take (i := 24) (oi := _) (v := ?v321) rfl (by as_aux_lemma => kernel_rfl) (by as_aux_lemma => kernel_rfl) (by as_aux_lemma => kernel_rfl) (fun _ _ _ h => h) (Or.inl ⟨by rfl, ?y321⟩) hH2 ?r321
            case y321 => (intro w hSw; (try dsimp only at hSw); go_simp; (try with_reducible rfl))
            try simp only [Act.put, List.getElem_toArray, List.getElem_cons_succ, List.getElem_cons_zero, List.setIfInBounds_toArray, List.set_cons_zero, List.set_cons_succ]
            refine wpAnyH_ready (rs := [23]) (by as_aux_lemma => kernel_rfl) (by simp) ?_
            refine AllReadyH.cons (o := _) rfl (fun K hK => ?_) AllReadyH.nil
            go_simp
            refine (sLines_any X g s _ HLC.out.one.at_ (HE.out.keep HLC.out.one.b) (by have := HZ.out.1; have := HK6.out; omega)).mono ?_
            rintro e v23 ⟨A9, c9, rfl, hr9, hc9, hb⟩
            have HR9 := hide hr9
            have HLV := hide (HLC.out.keep hb)
            clear hr9 hc9
            refine hK.out _ _ (keep2 hb hH2) (fun hN => ?_)
            clear hK K hH2
            have hH3 := hN
            clear hN
            try simp only [Act.put, List.getElem_toArray, List.getElem_cons_succ, List.getElem_cons_zero, List.setIfInBounds_toArray, List.set_cons_zero, List.set_cons_succ]
            refine wpAnyH_ready (rs := [25]) (by as_aux_lemma => kernel_rfl) (by simp) ?_
            refine AllReadyH.cons (o := _) rfl (fun K hK => ?_) AllReadyH.nil
            go_simp
            refine (rLines_any Y s v23 HLV.out.ref (by have := HZ.out.1; have := HK6.out; omega)).mono ?_
            rintro e v25 ⟨vv, rfl, ho25, hb⟩
            obtain ⟨A8, c8, rfl, hr8, hc8⟩ := OwnS.row ho25
            have HR8 := hide hr8
            have HR7 := hide (HR9.out.keep hb)
            have HLU := hide (HLV.out.keep hb)
            clear ho25 hr8 hc8
            refine hK.out _ _ (keep2 hb hH3) (fun hN => ?_)
            clear hK K hH3
            have hH4 := hN
            clear hN
            try simp only [Act.put, List.getElem_toArray, List.getElem_cons_succ, List.getElem_cons_zero, List.setIfInBounds_toArray, List.set_cons_zero, List.set_cons_succ]
            refine wpAnyH_ready (rs := [26]) (by as_aux_lemma => kernel_rfl) (by simp) ?_
            refine AllReadyH.cons (o := _) rfl (fun K hK => ?_) AllReadyH.nil
            go_simp
            refine (same_any A9 A8 _ _ c9 c8 (linesL s.t) (linesL s.t) v25 HR7.out HR8.out rfl rfl (by have h1 := HZ.out.1; have h2 := HK6.out; have h3 := lines_len s.t; omega)).mono ?_
            rintro e v26 ⟨rfl, hb⟩
            rw [decide_eq_true rfl]
            have HLW := hide (HLU.out.keep hb)
            refine hK.out _ _ (keep2 hb hH4) (fun hN => ?_)
            clear hK K hH4
            have hH5 := hN
            clear hN
            try simp only [Act.put, List.getElem_toArray, List.getElem_cons_succ, List.getElem_cons_zero, List.setIfInBounds_toArray, List.set_cons_zero, List.set_cons_succ]
            refine' wpAnyH_take (i := 27) (oi := _) (v := ?v322) rfl (by as_aux_lemma => kernel_rfl) (by as_aux_lemma => kernel_rfl) (by as_aux_lemma => kernel_rfl) (fun _ _ _ h => h) (Or.inl ⟨by rfl, ?y322⟩) hH5 ?r322
            case y322 => (intro w hSw; (try dsimp only at hSw); go_simp; (try with_reducible rfl))
            try simp only [Act.put, List.getElem_toArray, List.getElem_cons_succ, List.getElem_cons_zero, List.setIfInBounds_toArray, List.set_cons_zero, List.set_cons_succ]
            refine' wpAnyH_take (i := 28) (oi := _) (v := ?v323) rfl (by as_aux_lemma => kernel_rfl) (by as_aux_lemma => kernel_rfl) (by as_aux_lemma => kernel_rfl) (fun _ _ _ h => h) (Or.inl ⟨by rfl, ?y323⟩) hH5 ?r323
            case y323 => (intro w hSw; (try dsimp only at hSw); go_simp; (try with_reducible rfl))
            try simp only [Act.put, List.getElem_toArray, List.getElem_cons_succ, List.getElem_cons_zero, List.setIfInBounds_toArray, List.set_cons_zero, List.set_cons_succ]
            refine wpAnyH_done (by as_aux_lemma => kernel_rfl) ?_ _
            clear HLC HLV HLU HR9 HR8 HR7
            go_wp2_with fail
            go_roundw
            case rel => exact ⟨k + 1, X, g, s, HKT.out, by go_num, rfl, HLW, HZ⟩
            case measure => simp [intOf]; omega
        · obtain rfl : k = ts.length := by omega
          go_wp2_with fail
          go_ret
          exact ⟨rfl, hl.out.one.b⟩
end Go.Proofs.YtimhbpfeofdfnaaDoor

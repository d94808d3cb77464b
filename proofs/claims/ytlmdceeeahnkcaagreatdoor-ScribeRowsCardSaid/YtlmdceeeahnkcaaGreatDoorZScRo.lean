/- ScribeRows. Written by recipes/sc13.py. -/
import Derived.Deep.RegionHeld3
import Derived.Test.YtlmdceeeahnkcaaGreatDoorZQ13
import Derived.Test.YtlmdceeeahnkcaaGreatDoorZQ14
namespace Go.Proofs.YtlmdceeeahnkcaaGreatDoor
open Go.RowKit Rul Rt Go.Sort Sc De Cl

/-- where the second loop is: a lines are behind it, it is in the a-th, which begins at f. -/
structure InL (P : List Qd) (a f i : Nat) : Prop where
  la : a ≤ P.length
  lf : f = (flatL (P.take a)).length
  li : f ≤ i
  hi : ∀ h : a < P.length, i ≤ f + (lineE P[a].1).length
  he : a = P.length → i = f
theorem InL.lt {P : List Qd} {a f i : Nat} (h : InL P a f i) (hi : i < (flatL P).length) : a < P.length := by
  apply Classical.byContradiction
  intro hn
  have e : a = P.length := by have := h.la; omega
  have h1 := h.he e
  have h2 := h.lf
  rw [e, List.take_length] at h2
  omega
theorem InL.end_ {P : List Qd} {a f i : Nat} (h : InL P a f i) (hi : ¬ i < (flatL P).length) : a = P.length := by
  apply Classical.byContradiction
  intro hn
  have hl : a < P.length := by have := h.la; omega
  have h1 := h.hi hl
  have h2 := h.lf
  have h3 := congrArg List.length (flatL_at P a hl)
  rw [List.length_append, List.length_append, List.length_cons] at h3
  omega
theorem InL.at_ {P : List Qd} {a f i : Nat} (h : InL P a f i) (hl : a < P.length) (hi : i < (flatL P).length) : (flatL P)[i] = (lineE P[a].1 ++ 10 :: flatL (P.drop (a + 1)))[i - f]'(by
    have h3 := congrArg List.length (flatL_at P a hl)
    rw [List.length_append] at h3
    have := h.lf; have := h.li; omega) := by
  have h1 := h.lf
  have h2 := h.li
  have : (flatL P)[i]? = (lineE P[a].1 ++ 10 :: flatL (P.drop (a + 1)))[i - f]? := by
    rw [flatL_at P a hl, List.getElem?_append_right (by omega), ← h1]
  rw [List.getElem?_eq_getElem hi, List.getElem?_eq_getElem (by
    have h3 := congrArg List.length (flatL_at P a hl)
    rw [List.length_append] at h3
    omega)] at this
  exact Option.some.inj this
theorem InL.inner {P : List Qd} {a f i : Nat} (h : InL P a f i) (hl : a < P.length) (hlt : i < (flatL P).length) (hi : i < f + (lineE P[a].1).length) : (flatL P)[i] ≠ 10 ∧ InL P a f (i + 1) := by
  have h2 := h.li
  refine ⟨?_, h.la, h.lf, by omega, fun _ => by omega, fun e => by omega⟩
  rw [h.at_ hl hlt, List.getElem_append_left (by omega)]
  exact (line_ends _ _ (List.getElem_mem _)).1
theorem InL.last {P : List Qd} {a f i : Nat} (h : InL P a f i) (hl : a < P.length) (hlt : i < (flatL P).length) (hi : ¬ i < f + (lineE P[a].1).length) : (flatL P)[i] = 10 ∧ InL P (a + 1) (i + 1) (i + 1) ∧ ((flatL P).drop f).take (i - f) = lineE P[a].1 := by
  have h1 := h.hi hl
  have h2 := h.li
  have h3 := h.lf
  have h4 := flatL_take P a hl
  have e : i = f + (lineE P[a].1).length := by omega
  refine ⟨?_, ⟨by omega, by rw [h4]; omega, Nat.le_refl _, fun _ => by omega, fun _ => rfl⟩, ?_⟩
  · rw [h.at_ hl hlt, List.getElem_append_right (by omega)]
    have : i - f - (lineE P[a].1).length = 0 := by omega
    simp [this]
  · have e1 : (flatL P).drop f = lineE P[a].1 ++ 10 :: flatL (P.drop (a + 1)) := by
      rw [flatL_at P a hl, h3, List.drop_left]
    rw [e1, e, Nat.add_sub_cancel_left, List.take_left]
theorem InL.start (P : List Qd) : InL P 0 0 0 := ⟨Nat.zero_le _, rfl, Nat.le_refl _, fun _ => Nat.zero_le _, fun _ => rfl⟩
set_option maxRecDepth 100000 in
set_option maxHeartbeats 64000000 in
set_option linter.unusedSimpArgs false in
theorem ro15_any (A : Option Addr) (n c : Nat) (l : List Qd) (w : World) (he : Env w) (hr : RowQ w A l) (hn : n = l.length) (ho : ∀ q ∈ l, DO w q.1 q.2) :
    Calls Tryz.prog 6 #[.slice A n c] w (Ans w (.bool true)) := by
  have HK := hide (known_any w he)
  have HE := hide he
  have HR := hide hr
  have HO := hide ho
  have HN := hide hn
  clear he hr ho hn
  by_cases h12 : n ≤ 12
  · have h12i : (n : Int) ≤ 12 := by omega
    go_enter Tryz.func6, Tryz.ntmps6
    go_wp2_with fail
    refine HK.out.mono ?_
    rintro q w1 ⟨rfl, hb⟩
    have HB1 := hide hb
    clear hb
    go_wp2_with fail
    go_loopw [3, 4, 5] (fun a m i wr => ∃ (j : Nat) (P : List Qd) (A2 : Option Addr) (k2 c2 : Nat), j ≤ n ∧ a = .string (str (flatL P)) ∧ m = .slice A2 k2 c2 ∧ i = .int .i64 j ∧ Hid (k2 = P.length) ∧ Hid (OwnQ wr w.heap.size (.slice A2 k2 c2) P) ∧ Hid (∀ q ∈ P, q ∈ l ∧ isD q.1 = true ∧ fewD q.1 = true) ∧ Hid (P.length ≤ j) ∧ Below w.heap.size w wr) (fun _ _ i _ => n - (intOf i).toNat)
    case atStart => exact ⟨0, [], none, 0, 0, Nat.zero_le _, rfl, rfl, rfl, hide rfl, hide (ownQ_nil _ _), hide (fun q h => by cases h), hide (Nat.le_refl _), HB1.out⟩
    case round =>
      obtain ⟨j, P, A2, k2, c2, hj, rfl, rfl, rfl, HK2, HOW, HP, HPL, hbw⟩ := hrel
      have HB := hide hbw
      clear hbw
      by_cases hlt : j < n
      · have hj0 : (0 : Int) ≤ (j : Int) := by omega
        have hj1 : (j : Int) < (n : Int) := by omega
        have hll : j < l.length := by have := HN.out; omega
        have hnn : l ≠ [] := fun e => by subst e; exact absurd hll (Nat.not_lt_zero _)
        obtain ⟨b1, o1, rfl, hb1, hc1⟩ := (HR.out.keep HB.out) hnn
        obtain ⟨x, hx⟩ : ∃ x, l[j] = x := ⟨_, rfl⟩
        have hr1 := hc1 j hll
        rw [hx] at hr1
        have R1 := hide hr1
        have hxl : x ∈ l := by rw [← hx]; exact List.getElem_mem _
        have HDO := hide ((HO.out x hxl).keep HB.out)
        have HXL := hide hxl
        have HEW := hide (HE.out.keep HB.out)
        have HSZ := hide (flatL_len P fun q hq => (HP.out q hq).2.1)
        clear hnn hc1 hx hr1 hxl hll
        obtain ⟨d, dm⟩ := x
        dsimp only at *
        cases hf : fewD d with
        | false =>
          have HF := hide (fun w => fewD_c d dm false w hf)
          clear hf
          go_wp2_with (refine load_deed rfl _ rfl _ _ rfl _ R1.out rfl ?_)
          refine (HF.out _).mono ?_
          rintro q w2 ⟨rfl, hb⟩
          replace HB := hide (andthen HB.out hb)
          clear hb
          go_wp2_with fail
          go_ret
          exact ⟨rfl, HB.out⟩
        | true =>
          have HF := hide (fun w => fewD_c d dm true w hf)
          have HDL := hide (HDO.out.few hf)
          have HFW := hide hf
          have HL := hide (fun w he h => line_any d dm w he h)
          clear hf
          cases hd : isD d with
          | false =>
            rw [lineV_no hd] at HL
            clear hd
            go_wp2_with (refine load_deed rfl _ rfl _ _ rfl _ R1.out rfl ?_)
            refine (HF.out _).mono ?_
            rintro q w2 ⟨rfl, hb⟩
            replace HB := hide (andthen HB.out hb)
            replace HEW := hide (HEW.out.keep hb)
            replace HDL := hide (HDL.out.keep hb)
            replace R1 := hide (range_keep R1.out hb)
            replace HOW := hide (OwnQ.keep HOW.out hb)
            clear hb
            go_wp2_with (refine load_deed rfl _ rfl _ _ rfl _ R1.out rfl ?_)
            refine (HL.out _ HEW.out HDL.out).mono ?_
            rintro q w3 ⟨rfl, hb⟩
            replace HB := hide (andthen HB.out hb)
            replace HOW := hide (OwnQ.keep HOW.out hb)
            clear hb
            go_wp2_with fail
            go_roundw
            case rel => exact ⟨j + 1, P, A2, k2, c2, by omega, rfl, rfl, by go_num, HK2, HOW, HP, hide (Nat.le_succ_of_le HPL.out), HB.out⟩
            case measure => simp [intOf]; omega
          | true =>
            rw [lineV_yes hd] at HL
            have HLL := hide (line_len hd).2
            have hcat1 : ¬ (9223372036854775807 < (str (flatL P)).size + (str (lineE d)).size) := by rw [str_size, str_size]; have := HSZ.out; have := HLL.out; have := HPL.out; have := Nat.mul_le_mul_right 8001 (show P.length ≤ 12 by omega); omega
            have hcat2 : ¬ (9223372036854775807 < (str (flatL P)).size + (str (lineE d)).size + 1) := by rw [str_size, str_size]; have := HSZ.out; have := HLL.out; have := HPL.out; have := Nat.mul_le_mul_right 8001 (show P.length ≤ 12 by omega); omega
            have HFL := hide (show str (flatL P) ++ str (lineE d) ++ str [10] = str (flatL (P ++ [(d, dm)])) by rw [flatL_snoc, str_app, str_app])
            have HPN := hide (show ∀ q ∈ P ++ [(d, dm)], q ∈ l ∧ isD q.1 = true ∧ fewD q.1 = true from fun q hq => by
              rcases List.mem_append.1 hq with hq | hq
              · exact HP.out q hq
              · rw [List.mem_singleton] at hq; subst hq; exact ⟨HXL.out, hd, HFW.out⟩)
            clear hd
            go_wp2_with (refine load_deed rfl _ rfl _ _ rfl _ R1.out rfl ?_)
            refine (HF.out _).mono ?_
            rintro q w2 ⟨rfl, hb⟩
            replace HB := hide (andthen HB.out hb)
            replace HEW := hide (HEW.out.keep hb)
            replace HDL := hide (HDL.out.keep hb)
            replace R1 := hide (range_keep R1.out hb)
            replace HOW := hide (OwnQ.keep HOW.out hb)
            clear hb
            go_wp2_with (refine load_deed rfl _ rfl _ _ rfl _ R1.out rfl ?_)
            refine (HL.out _ HEW.out HDL.out).mono ?_
            rintro q w3 ⟨rfl, hb⟩
            replace HB := hide (andthen HB.out hb)
            replace R1 := hide (range_keep R1.out hb)
            replace HOW := hide (OwnQ.keep HOW.out hb)
            have HBS := hide HB.out.size
            clear hb
            go_wp2_with (first | refine load_deed rfl _ rfl _ _ rfl _ R1.out rfl ?_ | refine build_one rfl _ rfl (dC d dm) rfl rfl _ rfl ?_ | refine wp_oneQ (B := w.heap.size) (l := P) (p := (d, dm)) rfl _ _ rfl rfl rfl rfl (HK2.out ▸ HOW.out) HBS.out (by have := HPL.out; omega) ?_)
            intro v4 w4 ho4 hb4
            obtain ⟨A4, m4, c4, rfl, e4⟩ := own_slice ho4
            have O4 := hide ho4
            have E4 := hide e4
            have HB4 := hide (HB.out.trans hb4)
            clear ho4 hb4 e4
            go_wp2_with fail
            go_roundw
            case rel => exact ⟨j + 1, P ++ [(d, dm)], A4, m4, c4, by omega, by rw [← HFL.out]; rfl, rfl, by go_num, E4, hide (E4.out ▸ O4.out), HPN, hide (by rw [List.length_append, List.length_singleton]; have := HPL.out; omega), HB4.out⟩
            case measure => simp [intOf]; omega
      · have HSZ := hide (flatL_len P fun q hq => (HP.out q hq).2.1)
        have HP12 := hide (show P.length ≤ 12 by have := HPL.out; omega)
        have HSS := hide (str_size (flatL P))
        have hszb : (str (flatL P)).size ≤ 100000 := by rw [str_size]; have := HSZ.out; have := Nat.mul_le_mul_right 8001 HP12.out; omega
        go_wp2_with fail
        go_loopw [8, 9, 10] (fun av fv iv wx => ∃ a f i : Nat, i ≤ (str (flatL P)).size ∧ av = .int .i64 a ∧ fv = .int .i64 f ∧ iv = .int .i64 i ∧ Hid (InL P a f i) ∧ Below wr.heap.size wr wx) (fun _ _ iv _ => (str (flatL P)).size - (intOf iv).toNat)
        case atStart => exact ⟨0, 0, 0, Nat.zero_le _, rfl, rfl, rfl, hide (InL.start P), start _⟩
        case round =>
          obtain ⟨a, f, i, hi, rfl, rfl, rfl, HI, hbx⟩ := hrel
          have HBX := hide hbx
          clear hbx
          by_cases hlt : i < (str (flatL P)).size
          · have hli : i < (flatL P).length := by have := HSS.out; omega
            have ha := HI.out.lt hli
            have hi0 : (0 : Int) ≤ (i : Int) := by omega
            have hi1 : (i : Int) < ((str (flatL P)).size : Int) := by omega
            obtain ⟨ch, hch⟩ : ∃ ch, (str (flatL P))[i]'hlt = ch := ⟨_, rfl⟩
            have hcl : (flatL P)[i] = ch := by rw [← hch, str_at _ i hlt hli]
            by_cases hin : i < f + (lineE P[a].1).length
            · obtain ⟨hne, hni⟩ := HI.out.inner ha hli hin
              have e1 : (((ch.toNat : Nat) : Int) == 10) = false := by
                rw [beq_eq_false_iff_ne]; intro e; rw [hcl] at hne; exact hne (UInt8.toNat_inj.1 (by show _ = 10; omega))
              have HNI := hide hni
              clear hcl hin hni hne
              go_wp2_with fail
              go_roundw
              case rel => exact ⟨a, f, i + 1, by omega, rfl, rfl, by go_num, HNI, HBX.out⟩
              case measure => simp [intOf]; omega
            · obtain ⟨h10, hnl, htk⟩ := HI.out.last ha hli hin
              have e1 : (((ch.toNat : Nat) : Int) == 10) = true := by rw [beq_iff_eq, ← hcl, h10]; rfl
              have hfi : (f : Int) ≤ (i : Int) := by have := HI.out.li; omega
              have hf0 : (0 : Int) ≤ (f : Int) := by omega
              have hisz : (i : Int) ≤ ((str (flatL P)).size : Int) := by omega
              have HNL := hide hnl
              obtain ⟨x, hx⟩ : ∃ x, P[a] = x := ⟨_, rfl⟩
              have hxp : x ∈ P := by rw [← hx]; exact List.getElem_mem _
              obtain ⟨hxl, hxd, hxf⟩ := HP.out x hxp
              obtain ⟨g, hg, hkc, hrq⟩ := OwnQ.at_ (HK2.out ▸ HOW.out) a ha
              subst hg
              rw [hx] at hrq htk
              have R4 := hide (range_keep hrq HBX.out)
              have HQ := hide (((HO.out x hxl).keep (andthen HB.out HBX.out)).few hxf)
              have HEX := hide (HE.out.keep (andthen HB.out HBX.out))
              have hsl : (str (flatL P)).extract f i = str (lineE x.1) := by rw [ext_str, htk]
              have HRY := hide (fun w he => Read_any (lineE x.1) w he (by have := (line_len hxd).2; omega))
              rw [read_line hxd] at HRY
              have ha0 : (0 : Int) ≤ (a : Int) := by omega
              have ha3 : a ≤ 12 := by have := HP12.out; omega
              have ha1 : (a : Int) < (k2 : Int) := by have := HK2.out; omega
              have ha2 : ¬ (k2 : Int) ≤ (a : Int) := by omega
              clear hcl hin hnl h10 htk hx hxp hxl hxd hxf hrq
              obtain ⟨d, dm⟩ := x
              dsimp only at *
              have HSM := hide (fun p w (h1 : DL w d p) h2 => rsameD_c d d p dm true w h1 h2 (sameD_self _))
              generalize lineE d = LN at *
              go_wp2_with fail
              refine (HRY.out _ HEX.out).mono ?_
              rintro q w8 ⟨hb, p, rfl, hd⟩
              have R3 := hide (range_new w8 (dC d p) 34)
              have hb9 := more (start w8) (.cells (dC d p).toArray 34)
              have HP2 := hide (hd.keep hb9)
              replace hb := andthen hb hb9
              replace R4 := hide (range_keep R4.out hb)
              replace HQ := hide (HQ.out.keep hb)
              have HBX9 := hide (andthen HBX.out hb)
              clear hb hb9 hd HRY HEX HBX
              go_wp2_with (refine store_new rfl _ _ _ rfl w8 _ (dC d p).toArray rfl rfl rfl (by kernel_rfl) (by kernel_rfl) (by kernel_rfl) ?_)
              generalize hN8 : w8.heap.size = N8 at *
              generalize w8.alloc (.cells (dC d p).toArray 34) = w9 at *
              clear hN8
              refine wp_region_held_drew (S := fun w' => Below w9.heap.size w9 w') (by kernel_rfl) ?_ (fun hH0 => ?_)
              · exact (start w9).drew
              refine' wpAnyH_take (i := 0) (oi := _) (v := ?v0) rfl (by as_aux_lemma => kernel_rfl) (by as_aux_lemma => kernel_rfl) (by as_aux_lemma => kernel_rfl) (fun _ _ _ h => h) (Or.inl ⟨by rfl, ?y0⟩) hH0 ?r0
              case y0 => (intro w hSw; (try dsimp only at hSw); go_simp; (try with_reducible rfl))
              try simp only [Act.put, List.getElem_toArray, List.getElem_cons_succ, List.getElem_cons_zero, List.setIfInBounds_toArray, List.set_cons_zero, List.set_cons_succ]
              refine' wpAnyH_take (i := 1) (oi := _) (v := ?v1) rfl (by as_aux_lemma => kernel_rfl) (by as_aux_lemma => kernel_rfl) (by as_aux_lemma => kernel_rfl) (fun _ _ _ h => h) (Or.inl ⟨by rfl, ?y1⟩) hH0 ?r1
              case y1 => (intro w hSw; (try dsimp only at hSw); go_simp; (try with_reducible rfl))
              try simp only [Act.put, List.getElem_toArray, List.getElem_cons_succ, List.getElem_cons_zero, List.setIfInBounds_toArray, List.set_cons_zero, List.set_cons_succ]
              refine' wpAnyH_take (i := 2) (oi := _) (v := ?v2) rfl (by as_aux_lemma => kernel_rfl) (by as_aux_lemma => kernel_rfl) (by as_aux_lemma => kernel_rfl) (fun _ _ _ h => h) (Or.inl ⟨by rfl, ?y2⟩) hH0 ?r2
              case y2 => (intro w hSw; (try dsimp only at hSw); go_simp; (try with_reducible rfl))
              try simp only [Act.put, List.getElem_toArray, List.getElem_cons_succ, List.getElem_cons_zero, List.setIfInBounds_toArray, List.set_cons_zero, List.set_cons_succ]
              refine' wpAnyH_take (i := 3) (oi := _) (v := ?v3) rfl (by as_aux_lemma => kernel_rfl) (by as_aux_lemma => kernel_rfl) (by as_aux_lemma => kernel_rfl) (fun _ _ _ h => h) (Or.inl ⟨by rfl, ?y3⟩) hH0 ?r3
              case y3 => (intro w hSw; (try dsimp only at hSw); go_simp; (try with_reducible rfl))
              try simp only [Act.put, List.getElem_toArray, List.getElem_cons_succ, List.getElem_cons_zero, List.setIfInBounds_toArray, List.set_cons_zero, List.set_cons_succ]
              refine' wpAnyH_take (i := 4) (oi := _) (v := ?v4) rfl (by as_aux_lemma => kernel_rfl) (by as_aux_lemma => kernel_rfl) (by as_aux_lemma => kernel_rfl) (fun _ _ _ h => h) (Or.inl ⟨by rfl, ?y4⟩) hH0 ?r4
              case y4 => (intro w hSw; (try dsimp only at hSw); go_simp; (try with_reducible rfl))
              try simp only [Act.put, List.getElem_toArray, List.getElem_cons_succ, List.getElem_cons_zero, List.setIfInBounds_toArray, List.set_cons_zero, List.set_cons_succ]
              refine' wpAnyH_take (i := 5) (oi := _) (v := ?v5) rfl (by as_aux_lemma => kernel_rfl) (by as_aux_lemma => kernel_rfl) (by as_aux_lemma => kernel_rfl) (fun _ _ _ h => h) (Or.inl ⟨by rfl, ?y5⟩) hH0 ?r5
              case y5 => (intro w hSw; (try dsimp only at hSw); go_simp; (try with_reducible rfl))
              try simp only [Act.put, List.getElem_toArray, List.getElem_cons_succ, List.getElem_cons_zero, List.setIfInBounds_toArray, List.set_cons_zero, List.set_cons_succ]
              refine' wpAnyH_take (i := 6) (oi := _) (v := .bool false) rfl (by as_aux_lemma => kernel_rfl) (by as_aux_lemma => kernel_rfl) (by as_aux_lemma => kernel_rfl) (fun _ _ _ h => h) (Or.inl ⟨by rfl, ?y6⟩) hH0 ?r6
              case y6 => (intro w hSw; (try dsimp only at hSw); go_simp; (try simp [ha2]); (try omega))
              try simp only [Act.put, List.getElem_toArray, List.getElem_cons_succ, List.getElem_cons_zero, List.setIfInBounds_toArray, List.set_cons_zero, List.set_cons_succ]
              refine' wpAnyH_take (i := 7) (oi := _) (v := ?v7) rfl (by as_aux_lemma => kernel_rfl) (by as_aux_lemma => kernel_rfl) (by as_aux_lemma => kernel_rfl) (fun _ _ _ h => h) (Or.inl ⟨by rfl, ?y7⟩) hH0 ?r7
              case y7 => (intro w hSw; (try dsimp only at hSw); go_simp; (try with_reducible rfl))
              try simp only [Act.put, List.getElem_toArray, List.getElem_cons_succ, List.getElem_cons_zero, List.setIfInBounds_toArray, List.set_cons_zero, List.set_cons_succ]
              refine' wpAnyH_take (i := 8) (oi := _) (v := ?v8) rfl (by as_aux_lemma => kernel_rfl) (by as_aux_lemma => kernel_rfl) (by as_aux_lemma => kernel_rfl) (fun _ _ _ h => h) (Or.inl ⟨by rfl, ?y8⟩) hH0 ?r8
              case y8 => (intro w hSw; (try dsimp only at hSw); go_simp; (try with_reducible rfl))
              try simp only [Act.put, List.getElem_toArray, List.getElem_cons_succ, List.getElem_cons_zero, List.setIfInBounds_toArray, List.set_cons_zero, List.set_cons_succ]
              refine' wpAnyH_take (i := 9) (oi := _) (v := _) rfl (by as_aux_lemma => kernel_rfl) (by as_aux_lemma => kernel_rfl) (by as_aux_lemma => kernel_rfl) (fun _ _ _ h => h) (yields_deed (by rfl) _ rfl _ _ rfl _ (fun _ hS => range_keep R3.out hS) rfl) hH0 ?_
              try simp only [Act.put, List.getElem_toArray, List.getElem_cons_succ, List.getElem_cons_zero, List.setIfInBounds_toArray, List.set_cons_zero, List.set_cons_succ]
              refine' wpAnyH_take (i := 10) (oi := _) (v := ?v10) rfl (by as_aux_lemma => kernel_rfl) (by as_aux_lemma => kernel_rfl) (by as_aux_lemma => kernel_rfl) (fun _ _ _ h => h) (Or.inl ⟨by rfl, ?y10⟩) hH0 ?r10
              case y10 => (intro w hSw; (try dsimp only at hSw); go_simp; (try with_reducible rfl))
              try simp only [Act.put, List.getElem_toArray, List.getElem_cons_succ, List.getElem_cons_zero, List.setIfInBounds_toArray, List.set_cons_zero, List.set_cons_succ]
              refine' wpAnyH_take (i := 11) (oi := _) (v := ?v11) rfl (by as_aux_lemma => kernel_rfl) (by as_aux_lemma => kernel_rfl) (by as_aux_lemma => kernel_rfl) (fun _ _ _ h => h) (Or.inl ⟨by rfl, ?y11⟩) hH0 ?r11
              case y11 => (intro w hSw; (try dsimp only at hSw); go_simp; (try with_reducible rfl))
              try simp only [Act.put, List.getElem_toArray, List.getElem_cons_succ, List.getElem_cons_zero, List.setIfInBounds_toArray, List.set_cons_zero, List.set_cons_succ]
              refine' wpAnyH_take (i := 12) (oi := _) (v := ?v12) rfl (by as_aux_lemma => kernel_rfl) (by as_aux_lemma => kernel_rfl) (by as_aux_lemma => kernel_rfl) (fun _ _ _ h => h) (Or.inl ⟨by rfl, ?y12⟩) hH0 ?r12
              case y12 => (intro w hSw; (try dsimp only at hSw); go_simp; (try with_reducible rfl))
              try simp only [Act.put, List.getElem_toArray, List.getElem_cons_succ, List.getElem_cons_zero, List.setIfInBounds_toArray, List.set_cons_zero, List.set_cons_succ]
              refine' wpAnyH_take (i := 13) (oi := _) (v := _) rfl (by as_aux_lemma => kernel_rfl) (by as_aux_lemma => kernel_rfl) (by as_aux_lemma => kernel_rfl) (fun _ _ _ h => h) (yields_deed (by rfl) _ rfl _ _ rfl _ (fun _ hS => range_keep R4.out hS) rfl) hH0 ?_
              try simp only [Act.put, List.getElem_toArray, List.getElem_cons_succ, List.getElem_cons_zero, List.setIfInBounds_toArray, List.set_cons_zero, List.set_cons_succ]
              refine wpAnyH_ready (rs := [14]) (by as_aux_lemma => kernel_rfl) (by simp) ?_
              refine AllReadyH.cons (o := _) rfl (fun K hK => ?_) AllReadyH.nil
              go_simp
              refine (HSM.out _ _ (HP2.out.keep hH0) (HQ.out.keep hH0)).mono ?_
              rintro _ wz ⟨rfl, hb⟩
              refine hK.out _ _ (sB hb hH0) (fun hN => ?_)
              clear hK K hH0
              have hH1 := hN
              clear hN
              try simp only [Act.put, List.getElem_toArray, List.getElem_cons_succ, List.getElem_cons_zero, List.setIfInBounds_toArray, List.set_cons_zero, List.set_cons_succ]
              refine' wpAnyH_take (i := 15) (oi := _) (v := ?v14) rfl (by as_aux_lemma => kernel_rfl) (by as_aux_lemma => kernel_rfl) (by as_aux_lemma => kernel_rfl) (fun _ _ _ h => h) (Or.inl ⟨by rfl, ?y14⟩) hH1 ?r14
              case y14 => (intro w hSw; (try dsimp only at hSw); go_simp; (try with_reducible rfl))
              try simp only [Act.put, List.getElem_toArray, List.getElem_cons_succ, List.getElem_cons_zero, List.setIfInBounds_toArray, List.set_cons_zero, List.set_cons_succ]
              refine' wpAnyH_take (i := 16) (oi := _) (v := ?v15) rfl (by as_aux_lemma => kernel_rfl) (by as_aux_lemma => kernel_rfl) (by as_aux_lemma => kernel_rfl) (fun _ _ _ h => h) (Or.inl ⟨by rfl, ?y15⟩) hH1 ?r15
              case y15 => (intro w hSw; (try dsimp only at hSw); go_simp; (try with_reducible rfl))
              try simp only [Act.put, List.getElem_toArray, List.getElem_cons_succ, List.getElem_cons_zero, List.setIfInBounds_toArray, List.set_cons_zero, List.set_cons_succ]
              refine wpAnyH_done (by as_aux_lemma => kernel_rfl) ?_ _
              have HBR := hide hH1
              clear hH1
              go_wp2_with fail
              go_roundw
              case rel => exact ⟨a + 1, i + 1, i + 1, by omega, by go_num, by go_num, by go_num, HNL, andthen HBX9.out HBR.out⟩
              case measure => simp [intOf]; omega
          · have hend := HI.out.end_ (by have := HSS.out; omega)
            have he1 : ((a : Int) == (k2 : Int)) = true := by rw [beq_iff_eq]; have := HK2.out; omega
            clear hend
            go_wp2_with fail
            go_ret
            exact ⟨rfl, andthen HB.out HBX.out⟩
  · have h12i : ¬ (n : Int) ≤ 12 := by omega
    go_enter Tryz.func6, Tryz.ntmps6
    go_wp2_with fail
    refine HK.out.mono ?_
    rintro q w1 ⟨rfl, hb⟩
    have HB := hide hb
    clear hb
    go_wp2_with fail
    go_ret
    exact ⟨rfl, HB.out⟩
end Go.Proofs.YtlmdceeeahnkcaaGreatDoor

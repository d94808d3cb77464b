/- Package lease: has, part, lack. Written by recipes/le1.py. -/
import Derived.Test.YtphojcnehgdbmaaLeB
namespace Go.Proofs.Ytphojcnehgdbmaa.S2
open Go.RowKit Spn Cl Le

set_option maxRecDepth 100000 in
set_option maxHeartbeats 4000000 in
theorem hasR_any (g : Nat) (bs : Nat → Nat) (f : Rm) (A : Option Addr) (n c : Nat) (l : List C) (w : World) (h : LeaseAt w g bs f) (hr : RowC w A l) (he : n = l.length) (hn : l.length ≤ 40000) :
    Calls Try.prog 38 #[.pointer (some ⟨g, 0, none⟩), .slice A n c] w fun e w' => e = .returned (.bool (hasL f (neatC l))) ∧ Below w.heap.size w w' := by
  subst he
  have H := hide h
  have HR := hide hr
  have HN := hide hn
  clear h hr hn
  go_enter Try.func38, Try.ntmps38
  go_wp2_with fail
  refine (Neat_any A _ c l _ HR.out rfl (by have := HN.out; omega)).mono ?_
  rintro e w1 ⟨v1, rfl, ho1, hb1⟩
  obtain ⟨A1, c1, rfl, hr1⟩ := ho1.row
  have HR1 := hide hr1
  have HL1 := hide (H.out.keep hb1)
  have HB1 := hide hb1
  have HLO : Hid (∀ c ∈ neatC l, 0 ≤ c.1 ∧ c.1 < 8) := hide (outC_lo _)
  have HLL := hide (neatC_le l)
  clear ho1 hb1 hr1 HR H
  generalize hLe : neatC l = L at *
  have HLE := hide hLe
  have hll : L.length ≤ 40000 := by have := HLL.out; have := HN.out; omega
  clear hLe
  go_wp2_with fail
  go_loopw [10] (fun i wr => ∃ k : Nat, k ≤ L.length ∧ i = .int .i64 k ∧ Hid (hasL f (L.take k) = true) ∧ Hid (Below w1.heap.size w1 wr)) (fun i _ => L.length - (intOf i).toNat)
  case atStart => exact ⟨0, Nat.zero_le _, rfl, hide rfl, hide (start _)⟩
  case round =>
    obtain ⟨k, hk, rfl, HT, HB⟩ := hrel
    by_cases hlt : k < L.length
    · obtain ⟨b, off, rfl, hb, hcl⟩ := HR1.out.keep HB.out (by intro h0; rw [h0] at hlt; exact absurd hlt (Nat.not_lt_zero _))
      obtain ⟨m, hm⟩ : ∃ m, L[k] = m := ⟨_, rfl⟩
      obtain ⟨ri, x, y⟩ := m
      have hmem := HLO.out L[k] (List.getElem_mem hlt)
      rw [hm] at hmem
      simp only at hmem
      obtain ⟨r, rfl⟩ : ∃ r : Nat, ri = (r : Int) := ⟨ri.toNat, by omega⟩
      have hr8 : r < 8 := by omega
      have hr0 : (0 : Int) ≤ (r : Int) := by omega
      have hr9 : (r : Int) < 8 := by omega
      have hi0 : (0 : Int) ≤ (k : Int) := by omega
      have hi1 : (k : Int) < (L.length : Int) := by omega
      have hrt : ((r : Int)).toNat = r := by omega
      have d0 : wr.cell? ⟨b, off + k * 3, none⟩ = some (.int .i64 (r : Int)) := by have := (hcl k hlt).1; rw [hm] at this; exact this
      have d1 : wr.cell? ⟨b, off + k * 3 + 1, none⟩ = some (.int .i64 x) := by have := (hcl k hlt).2.1; rw [hm] at this; exact this
      have d2 : wr.cell? ⟨b, off + k * 3 + 2, none⟩ = some (.int .i64 y) := by have := (hcl k hlt).2.2; rw [hm] at this; exact this
      have HLK := hide (HL1.out.keep HB.out)
      have HTK := hide (hasL_take f L k hlt)
      have HNO := hide (hasL_no f L k hlt)
      rw [hm] at HTK HNO
      simp only [hrt] at HTK HNO
      clear hcl hm
      have hbx := (more (start wr) (.cells #[.int .i64 (r : Int), .int .i64 x, .int .i64 y] 55)).drew
      have q0 : ((wr.alloc (.cells #[.int .i64 (r : Int), .int .i64 x, .int .i64 y] 55)).drew).cell? ⟨wr.heap.size, 0, none⟩ = some (.int .i64 (r : Int)) := (box3 wr (r : Int) x y).1
      have q1 : ((wr.alloc (.cells #[.int .i64 (r : Int), .int .i64 x, .int .i64 y] 55)).drew).cell? ⟨wr.heap.size, 1, none⟩ = some (.int .i64 x) := (box3 wr (r : Int) x y).2.1
      have q2 : ((wr.alloc (.cells #[.int .i64 (r : Int), .int .i64 x, .int .i64 y] 55)).drew).cell? ⟨wr.heap.size, 2, none⟩ = some (.int .i64 y) := (box3 wr (r : Int) x y).2.2
      have HLX := hide (HLK.out.keep hbx)
      have hcx := HLX.out.cell r hr8
      obtain ⟨bb, hbb⟩ : ∃ bb, decide ((lackR (f r) (x, y)).length = 0) = bb := ⟨_, rfl⟩
      rw [hbb] at HTK HNO
      have HBB := hide (andthen HB.out (hbx.mono (Nat.le_refl _)))
      have HE : Hid (S2.hasB (f r) (x, y) = bb) := hide hbb
      clear hbb hbx hmem hrt
      go_wp2_with fail
      refine wp_region_still_tail 8 (by kernel_rfl) (by kernel_rfl) ?_
      simp only [List.take_succ_cons, List.take_zero, List.drop_succ_cons, List.drop_zero]
      change wpStill _ _ ((wr.alloc (.cells #[.int .i64 (r : Int), .int .i64 x, .int .i64 y] 55)).drew) (fun a' => wpList _ _ _ _ a' ((wr.alloc (.cells #[.int .i64 (r : Int), .int .i64 x, .int .i64 y] 55)).drew)) _ _
      generalize (wr.alloc (.cells #[.int .i64 (r : Int), .int .i64 x, .int .i64 y] 55)).drew = V at *
      iterate 8 still_step
      refine wpStill_nil ?_
      go_wp2_with fail
      refine (has_any (bs r) (f r) x y V (HLX.out.set r hr8)).mono ?_
      rintro e w2 ⟨rfl, hb2⟩
      rw [HE.out]
      have HB2 := hide (andthen HBB.out hb2)
      clear hb2 q0 q1 q2 hcx d0 d1 d2
      cases bb
      · have HF := hide (HNO.out rfl)
        go_wp2_with fail
        go_ret
        exact ⟨by (try rw [HLE.out]); (try rw [HF.out]); (try rfl), andthen HB1.out HB2.out⟩
      · go_wp2_with fail
        go_roundw
        case rel => exact ⟨k + 1, by omega, by go_num, by rw [HTK.out, HT.out]; exact hide rfl, hide HB2.out⟩
        case measure => simp [intOf]; omega
    · obtain rfl : k = L.length := by omega
      rw [List.take_length] at HT
      go_wp2_with fail
      go_ret
      exact ⟨by (try rw [HLE.out]); (try rw [HT.out]); (try rfl), andthen HB1.out HB.out⟩

theorem apartC_new {w : World} {B : Nat} {v : Value} {l : List C} {b : Nat} (h : OwnC w B v l) (hb : w.heap.size ≤ b) : Apart v b := by
  intro he
  have := (h.lt b he.symm).2
  omega
theorem apartC_low {w : World} {B : Nat} {v : Value} {l : List C} {b : Nat} (h : OwnC w B v l) (hb : b < B) : Apart v b := by
  intro he
  have := (h.lt b he.symm).1
  omega
theorem keepG4 {v v' : Value} {W W1 : World} (hg : Goes v W v' W1) {a0 a1 a2 a3 : Addr} (n0 : Apart v a0.block) (n1 : Apart v a1.block) (n2 : Apart v a2.block) (n3 : Apart v a3.block) {v0 v1 v2 v3 : Value} (h : W.cell? a0 = some v0 ∧ W.cell? a1 = some v1 ∧ W.cell? a2 = some v2 ∧ W.cell? a3 = some v3) : W1.cell? a0 = some v0 ∧ W1.cell? a1 = some v1 ∧ W1.cell? a2 = some v2 ∧ W1.cell? a3 = some v3 :=
  ⟨hg.cell n0 h.1, hg.cell n1 h.2.1, hg.cell n2 h.2.2.1, hg.cell n3 h.2.2.2⟩
theorem parts_app (f : Rm) (l k : List C) : parts f (l ++ k) = parts f l ++ parts f k := by unfold parts; rw [List.flatMap_append]
theorem lacks_app (f : Rm) (l k : List C) : lacks f (l ++ k) = lacks f l ++ lacks f k := by unfold lacks; rw [List.flatMap_append]
theorem parts_tot (f : Rm) (hf : NeatR f) (l : List C) (k : Nat) : (parts f ((neatC l).take k)).length ≤ (outC f).length + l.length := by
  have e : parts f (neatC l) = parts f ((neatC l).take k) ++ parts f ((neatC l).drop k) := by
    rw [← parts_app, List.take_append_drop]
  have h := meetC_le l (outC f)
  rw [← parts_is hf, e, List.length_append] at h
  omega
theorem lacks_tot (f : Rm) (l : List C) (k : Nat) : (lacks f ((neatC l).take k)).length ≤ (outC f).length + l.length + 8 := by
  have e : lacks f (neatC l) = lacks f ((neatC l).take k) ++ lacks f ((neatC l).drop k) := by
    rw [← lacks_app, List.take_append_drop]
  have h := minusC_le l (outC f)
  rw [← lacks_is f, e, List.length_append] at h
  omega

set_option maxRecDepth 100000 in
set_option maxHeartbeats 4000000 in
theorem partR_any (g : Nat) (bs : Nat → Nat) (f : Rm) (A : Option Addr) (n c : Nat) (l : List C) (w : World) (h : LeaseAt w g bs f) (hr : RowC w A l) (he : n = l.length) (hn : l.length ≤ 40000) (hf : (outC f).length ≤ 40000) :
    Calls Try.prog 35 #[.pointer (some ⟨g, 0, none⟩), .slice A n c] w (GivesC w (parts f (neatC l))) := by
  have HTOT : Hid (∀ k, (parts f ((neatC l).take k)).length ≤ 200000) := hide fun k => by have := parts_tot f h.neat l k; omega
  subst he
  have H := hide h
  have HR := hide hr
  have HN := hide hn
  clear h hr hn
  go_enter Try.func35, Try.ntmps35
  go_wp2_with fail
  refine (Neat_any A _ c l _ HR.out rfl (by have := HN.out; omega)).mono ?_
  rintro e w1 ⟨v1, rfl, ho1, hb1⟩
  obtain ⟨A1, c1, rfl, hr1⟩ := ho1.row
  have HR1 := hide hr1
  have HL1 := hide (H.out.keep hb1)
  have HB1 := hide hb1
  have HLO : Hid (∀ c ∈ neatC l, 0 ≤ c.1 ∧ c.1 < 8) := hide (outC_lo _)
  have HLL := hide (neatC_le l)
  clear ho1 hb1 hr1 HR H
  generalize hLe : neatC l = L at *
  have HLE := hide hLe
  have hll : L.length ≤ 40000 := by have := HLL.out; have := HN.out; omega
  clear hLe
  go_wp2_with fail
  go_loopw [5, 11] (fun v i wr => ∃ k : Nat, k ≤ L.length ∧ i = .int .i64 k ∧ Hid (OwnC wr w1.heap.size v (parts f (L.take k))) ∧ Hid (Below w1.heap.size w1 wr)) (fun _ i _ => L.length - (intOf i).toNat)
  case atStart => exact ⟨0, Nat.zero_le _, rfl, hide (ownC_nil _ _), hide (start _)⟩
  case round =>
    obtain ⟨k, hk, rfl, HO, HB⟩ := hrel
    by_cases hlt : k < L.length
    · obtain ⟨b, off, rfl, hb, hcl⟩ := HR1.out.keep HB.out (by intro h0; rw [h0] at hlt; exact absurd hlt (Nat.not_lt_zero _))
      obtain ⟨m, hm⟩ : ∃ m, L[k] = m := ⟨_, rfl⟩
      obtain ⟨ri, x, y⟩ := m
      have hmem := HLO.out L[k] (List.getElem_mem hlt)
      rw [hm] at hmem
      simp only at hmem
      obtain ⟨r, rfl⟩ : ∃ r : Nat, ri = (r : Int) := ⟨ri.toNat, by omega⟩
      have hr8 : r < 8 := by omega
      have hr0 : (0 : Int) ≤ (r : Int) := by omega
      have hr9 : (r : Int) < 8 := by omega
      have hi0 : (0 : Int) ≤ (k : Int) := by omega
      have hi1 : (k : Int) < (L.length : Int) := by omega
      have hrt : ((r : Int)).toNat = r := by omega
      have d0 : wr.cell? ⟨b, off + k * 3, none⟩ = some (.int .i64 (r : Int)) := by have := (hcl k hlt).1; rw [hm] at this; exact this
      have d1 : wr.cell? ⟨b, off + k * 3 + 1, none⟩ = some (.int .i64 x) := by have := (hcl k hlt).2.1; rw [hm] at this; exact this
      have d2 : wr.cell? ⟨b, off + k * 3 + 2, none⟩ = some (.int .i64 y) := by have := (hcl k hlt).2.2; rw [hm] at this; exact this
      have HLK := hide (HL1.out.keep HB.out)
      have HTK := hide (parts_take f L k hlt)
      rw [hm] at HTK
      simp only [hrt] at HTK
      have HK1 := HTOT.out k
      have HK2 := HTOT.out (k + 1)
      rw [HTK.out, List.length_append, tag_len] at HK2
      have HLF : Hid ((f r).length ≤ 40000) := hide (by have := room_le f r hr8; omega)
      have HKK : Hid ((parts f (L.take k)).length + (Spn.partR (f r) (x, y)).length ≤ 1000000) := hide (by omega)
      clear hcl hm
      have hbx := more (start wr) (.cells #[.int .i64 (r : Int), .int .i64 x, .int .i64 y] 55)
      have HS : (wr.alloc (.cells #[.int .i64 (r : Int), .int .i64 x, .int .i64 y] 55)).cell? ⟨wr.heap.size, 0, none⟩ = some (.int .i64 (r : Int)) ∧ (wr.alloc (.cells #[.int .i64 (r : Int), .int .i64 x, .int .i64 y] 55)).cell? ⟨wr.heap.size, 1, none⟩ = some (.int .i64 x) ∧ (wr.alloc (.cells #[.int .i64 (r : Int), .int .i64 x, .int .i64 y] 55)).cell? ⟨wr.heap.size, 2, none⟩ = some (.int .i64 y) ∧ (wr.alloc (.cells #[.int .i64 (r : Int), .int .i64 x, .int .i64 y] 55)).cell? ⟨g, r, none⟩ = some (.pointer (some ⟨bs r, 0, none⟩)) := ⟨(box3 wr (r : Int) x y).1, (box3 wr (r : Int) x y).2.1, (box3 wr (r : Int) x y).2.2, cell_keep hbx (HLK.out.cell r hr8)⟩
      have HLV : Hid (LeaseAt (wr.alloc (.cells #[.int .i64 (r : Int), .int .i64 x, .int .i64 y] 55)).drew g bs f) := hide (HLK.out.keep hbx.drew)
      have HLW : Hid ((f r).length ≤ 800000) := hide (by have := HLF.out; omega)
      have HOV := hide (OwnC.keep HO.out hbx.drew)
      have HBV : Hid (Below w1.heap.size w1 (wr.alloc (.cells #[.int .i64 (r : Int), .int .i64 x, .int .i64 y] 55)).drew) := hide (andthen HB.out (hbx.drew.mono (Nat.le_refl _)))
      have HNX := hide (apartC_new HO.out (Nat.le_refl wr.heap.size))
      have HNG := hide (apartC_low HO.out HL1.out.lt)
      clear hbx hmem hrt
      go_wp2_with fail
      generalize wr.alloc (.cells #[.int .i64 (r : Int), .int .i64 x, .int .i64 y] 55) = V at *
      go_region_held3 (fun w' => w'.cell? ⟨wr.heap.size, 0, none⟩ = some (.int .i64 (r : Int)) ∧ w'.cell? ⟨wr.heap.size, 1, none⟩ = some (.int .i64 x) ∧ w'.cell? ⟨wr.heap.size, 2, none⟩ = some (.int .i64 y) ∧ w'.cell? ⟨g, r, none⟩ = some (.pointer (some ⟨bs r, 0, none⟩))) (first | assumption | exact keep4 (by assumption) HS | exact keep4 (start _).drew HS) ((first
        | (go_at_call 52; (with_reducible refine (part_any (bs r) (f r) x y _ (HLV.out.set r hr8) HLW.out).mono ?_); rintro e w2 ⟨v2, rfl, ho2, hb2⟩; have hk2 := andthen (start V).drew hb2; obtain ⟨A2, c2, rfl, hr2⟩ := Own.row ho2; have HX := rowAp_of ho2 hr2 HOV.out (Nat.le_refl _); have HO2 := OwnC.keep HOV.out hb2; have HB2 := HBV.out.trans (hb2.mono HBV.out.size); have HS2 := keep4 hk2 HS)
        | (go_at_call 50; (with_reducible refine (appendRoom_any w1.heap.size _ (parts f (L.take k)) (r : Int) A2 _ c2 (Spn.partR (f r) (x, y)) w2 HO2 HB2.size HX rfl HKK.out).mono ?_); rintro e w3 ⟨v3, rfl, ho3, hg3⟩; have HS3 := keepG4 hg3 HNX.out HNX.out HNX.out HNG.out HS2)))
      all_goals
        have HO3 := hide ho3
        have HB3 := hide (goes_belowC hg3 HO2 HB2 HB2.size)
        clear ho3 hg3 HK1 HK2 HS HS2 HS3 d0 d1 d2 HX HO2 HB2 hk2 hb2 ho2 hr2
        go_wp2_with fail
        go_roundw
        case rel => exact ⟨k + 1, by omega, by go_num, by rw [HTK.out]; exact hide HO3.out, hide HB3.out⟩
        case measure => simp [intOf]; omega
    · obtain rfl : k = L.length := by omega
      rw [List.take_length] at HO
      go_wp2_with fail
      go_ret
      exact ⟨_, rfl, by (try rw [HLE.out]); exact HO.out.low HB1.out.size, andthen HB1.out HB.out⟩

set_option maxRecDepth 100000 in
set_option maxHeartbeats 4000000 in
theorem lackR_any (g : Nat) (bs : Nat → Nat) (f : Rm) (A : Option Addr) (n c : Nat) (l : List C) (w : World) (h : LeaseAt w g bs f) (hr : RowC w A l) (he : n = l.length) (hn : l.length ≤ 40000) (hf : (outC f).length ≤ 40000) :
    Calls Try.prog 37 #[.pointer (some ⟨g, 0, none⟩), .slice A n c] w (GivesC w (lacks f (neatC l))) := by
  have HTOT : Hid (∀ k, (lacks f ((neatC l).take k)).length ≤ 200000) := hide fun k => by have := lacks_tot f l k; omega
  subst he
  have H := hide h
  have HR := hide hr
  have HN := hide hn
  clear h hr hn
  go_enter Try.func37, Try.ntmps37
  go_wp2_with fail
  refine (Neat_any A _ c l _ HR.out rfl (by have := HN.out; omega)).mono ?_
  rintro e w1 ⟨v1, rfl, ho1, hb1⟩
  obtain ⟨A1, c1, rfl, hr1⟩ := ho1.row
  have HR1 := hide hr1
  have HL1 := hide (H.out.keep hb1)
  have HB1 := hide hb1
  have HLO : Hid (∀ c ∈ neatC l, 0 ≤ c.1 ∧ c.1 < 8) := hide (outC_lo _)
  have HLL := hide (neatC_le l)
  clear ho1 hb1 hr1 HR H
  generalize hLe : neatC l = L at *
  have HLE := hide hLe
  have hll : L.length ≤ 40000 := by have := HLL.out; have := HN.out; omega
  clear hLe
  go_wp2_with fail
  go_loopw [5, 11] (fun v i wr => ∃ k : Nat, k ≤ L.length ∧ i = .int .i64 k ∧ Hid (OwnC wr w1.heap.size v (lacks f (L.take k))) ∧ Hid (Below w1.heap.size w1 wr)) (fun _ i _ => L.length - (intOf i).toNat)
  case atStart => exact ⟨0, Nat.zero_le _, rfl, hide (ownC_nil _ _), hide (start _)⟩
  case round =>
    obtain ⟨k, hk, rfl, HO, HB⟩ := hrel
    by_cases hlt : k < L.length
    · obtain ⟨b, off, rfl, hb, hcl⟩ := HR1.out.keep HB.out (by intro h0; rw [h0] at hlt; exact absurd hlt (Nat.not_lt_zero _))
      obtain ⟨m, hm⟩ : ∃ m, L[k] = m := ⟨_, rfl⟩
      obtain ⟨ri, x, y⟩ := m
      have hmem := HLO.out L[k] (List.getElem_mem hlt)
      rw [hm] at hmem
      simp only at hmem
      obtain ⟨r, rfl⟩ : ∃ r : Nat, ri = (r : Int) := ⟨ri.toNat, by omega⟩
      have hr8 : r < 8 := by omega
      have hr0 : (0 : Int) ≤ (r : Int) := by omega
      have hr9 : (r : Int) < 8 := by omega
      have hi0 : (0 : Int) ≤ (k : Int) := by omega
      have hi1 : (k : Int) < (L.length : Int) := by omega
      have hrt : ((r : Int)).toNat = r := by omega
      have d0 : wr.cell? ⟨b, off + k * 3, none⟩ = some (.int .i64 (r : Int)) := by have := (hcl k hlt).1; rw [hm] at this; exact this
      have d1 : wr.cell? ⟨b, off + k * 3 + 1, none⟩ = some (.int .i64 x) := by have := (hcl k hlt).2.1; rw [hm] at this; exact this
      have d2 : wr.cell? ⟨b, off + k * 3 + 2, none⟩ = some (.int .i64 y) := by have := (hcl k hlt).2.2; rw [hm] at this; exact this
      have HLK := hide (HL1.out.keep HB.out)
      have HTK := hide (lacks_take f L k hlt)
      rw [hm] at HTK
      simp only [hrt] at HTK
      have HK1 := HTOT.out k
      have HK2 := HTOT.out (k + 1)
      rw [HTK.out, List.length_append, tag_len] at HK2
      have HLF : Hid ((f r).length ≤ 40000) := hide (by have := room_le f r hr8; omega)
      have HKK : Hid ((lacks f (L.take k)).length + (Spn.lackR (f r) (x, y)).length ≤ 1000000) := hide (by omega)
      clear hcl hm
      have hbx := more (start wr) (.cells #[.int .i64 (r : Int), .int .i64 x, .int .i64 y] 55)
      have HS : (wr.alloc (.cells #[.int .i64 (r : Int), .int .i64 x, .int .i64 y] 55)).cell? ⟨wr.heap.size, 0, none⟩ = some (.int .i64 (r : Int)) ∧ (wr.alloc (.cells #[.int .i64 (r : Int), .int .i64 x, .int .i64 y] 55)).cell? ⟨wr.heap.size, 1, none⟩ = some (.int .i64 x) ∧ (wr.alloc (.cells #[.int .i64 (r : Int), .int .i64 x, .int .i64 y] 55)).cell? ⟨wr.heap.size, 2, none⟩ = some (.int .i64 y) ∧ (wr.alloc (.cells #[.int .i64 (r : Int), .int .i64 x, .int .i64 y] 55)).cell? ⟨g, r, none⟩ = some (.pointer (some ⟨bs r, 0, none⟩)) := ⟨(box3 wr (r : Int) x y).1, (box3 wr (r : Int) x y).2.1, (box3 wr (r : Int) x y).2.2, cell_keep hbx (HLK.out.cell r hr8)⟩
      have HLV : Hid (LeaseAt (wr.alloc (.cells #[.int .i64 (r : Int), .int .i64 x, .int .i64 y] 55)).drew g bs f) := hide (HLK.out.keep hbx.drew)
      have HLW : Hid ((f r).length ≤ 800000) := hide (by have := HLF.out; omega)
      have HOV := hide (OwnC.keep HO.out hbx.drew)
      have HBV : Hid (Below w1.heap.size w1 (wr.alloc (.cells #[.int .i64 (r : Int), .int .i64 x, .int .i64 y] 55)).drew) := hide (andthen HB.out (hbx.drew.mono (Nat.le_refl _)))
      have HNX := hide (apartC_new HO.out (Nat.le_refl wr.heap.size))
      have HNG := hide (apartC_low HO.out HL1.out.lt)
      clear hbx hmem hrt
      go_wp2_with fail
      generalize wr.alloc (.cells #[.int .i64 (r : Int), .int .i64 x, .int .i64 y] 55) = V at *
      go_region_held3 (fun w' => w'.cell? ⟨wr.heap.size, 0, none⟩ = some (.int .i64 (r : Int)) ∧ w'.cell? ⟨wr.heap.size, 1, none⟩ = some (.int .i64 x) ∧ w'.cell? ⟨wr.heap.size, 2, none⟩ = some (.int .i64 y) ∧ w'.cell? ⟨g, r, none⟩ = some (.pointer (some ⟨bs r, 0, none⟩))) (first | assumption | exact keep4 (by assumption) HS | exact keep4 (start _).drew HS) ((first
        | (go_at_call 55; (with_reducible refine (lack_any (bs r) (f r) x y _ (HLV.out.set r hr8) HLW.out).mono ?_); rintro e w2 ⟨v2, rfl, ho2, hb2⟩; have hk2 := andthen (start V).drew hb2; obtain ⟨A2, c2, rfl, hr2⟩ := Own.row ho2; have HX := rowAp_of ho2 hr2 HOV.out (Nat.le_refl _); have HO2 := OwnC.keep HOV.out hb2; have HB2 := HBV.out.trans (hb2.mono HBV.out.size); have HS2 := keep4 hk2 HS)
        | (go_at_call 50; (with_reducible refine (appendRoom_any w1.heap.size _ (lacks f (L.take k)) (r : Int) A2 _ c2 (Spn.lackR (f r) (x, y)) w2 HO2 HB2.size HX rfl HKK.out).mono ?_); rintro e w3 ⟨v3, rfl, ho3, hg3⟩; have HS3 := keepG4 hg3 HNX.out HNX.out HNX.out HNG.out HS2)))
      all_goals
        have HO3 := hide ho3
        have HB3 := hide (goes_belowC hg3 HO2 HB2 HB2.size)
        clear ho3 hg3 HK1 HK2 HS HS2 HS3 d0 d1 d2 HX HO2 HB2 hk2 hb2 ho2 hr2
        go_wp2_with fail
        go_roundw
        case rel => exact ⟨k + 1, by omega, by go_num, by rw [HTK.out]; exact hide HO3.out, hide HB3.out⟩
        case measure => simp [intOf]; omega
    · obtain rfl : k = L.length := by omega
      rw [List.take_length] at HO
      go_wp2_with fail
      go_ret
      exact ⟨_, rfl, by (try rw [HLE.out]); exact HO.out.low HB1.out.size, andthen HB1.out HB.out⟩
end Go.Proofs.Ytphojcnehgdbmaa.S2

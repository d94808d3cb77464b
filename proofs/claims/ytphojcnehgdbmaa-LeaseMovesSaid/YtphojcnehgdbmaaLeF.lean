/- Package lease: add, cut. Written by recipes/le1.py. -/
import Derived.Test.YtphojcnehgdbmaaLeB
namespace Go.Proofs.Ytphojcnehgdbmaa.S2
open Go.RowKit Spn Cl Le

set_option maxRecDepth 100000 in
set_option maxHeartbeats 4000000 in
theorem addR_any (g : Nat) (bs : Nat → Nat) (f : Rm) (A : Option Addr) (n c : Nat) (l : List C) (w : World) (h : LeaseAt w g bs f) (hr : RowC w A l) (he : n = l.length) (hn : l.length ≤ 40000) (hf : (outC f).length ≤ 40000) :
    Calls Try.prog 27 #[.pointer (some ⟨g, 0, none⟩), .slice A n c] w (TurnsL w g bs (adds f (neatC l))) := by
  have HF := hide hf
  have HNF := hide h.neat
  have HFO := hide h.one
  subst he
  have H := hide h
  have HR := hide hr
  have HN := hide hn
  clear h hr hn
  go_enter Try.func27, Try.ntmps27
  go_wp2_with fail
  refine (Neat_any A _ c l _ HR.out rfl (by have := HN.out; omega)).mono ?_
  rintro e w1 ⟨v1, rfl, ho1, hb1⟩
  obtain ⟨A1, c1, rfl, hr1⟩ := ho1.row
  have HR1 := hide hr1
  have HOO := hide ho1
  have HL1 := hide (H.out.keep hb1)
  have HB1 := hide hb1
  have HLO : Hid (∀ c ∈ neatC l, 0 ≤ c.1 ∧ c.1 < 8) := hide (outC_lo _)
  have HLL := hide (neatC_le l)
  clear ho1 hb1 hr1 HR H
  have HOV : Hid (OwnC w1 w.heap.size (.slice A1 (neatC l).length c1) (neatC l)) := hide HOO.out
  generalize hLe : neatC l = L at *
  have HLE := hide hLe
  have hll : L.length ≤ 40000 := by have := HLL.out; have := HN.out; omega
  clear hLe
  go_wp2_with fail
  go_loopw [9] (fun i wr => ∃ k : Nat, k ≤ L.length ∧ i = .int .i64 k ∧ Hid (LeaseAt wr g bs (adds f (L.take k))) ∧ Hid (ChgL bs w1 wr) ∧ Hid (OwnC wr w.heap.size (.slice A1 L.length c1) L)) (fun i _ => L.length - (intOf i).toNat)
  case atStart => exact ⟨0, Nat.zero_le _, rfl, hide HL1.out, hide (ChgL.of (start _)), hide HOV.out⟩
  case round =>
    obtain ⟨k, hk, rfl, HLK, HC, HO⟩ := hrel
    by_cases hlt : k < L.length
    · obtain ⟨A3, c3, he3, hr3⟩ := HO.out.row
      injection he3 with he3 _ he4
      subst he3 he4
      obtain ⟨b, off, rfl, hb, hcl⟩ := hr3 (by intro h0; rw [h0] at hlt; exact absurd hlt (Nat.not_lt_zero _))
      obtain ⟨m, hm⟩ : ∃ m, L[k] = m := ⟨_, rfl⟩
      obtain ⟨ri, x, y⟩ := m
      have hmem := HLO.out L[k] (List.getElem_mem hlt)
      rw [hm] at hmem
      simp only at hmem
      obtain ⟨r, rfl⟩ : ∃ r : Nat, ri = (r : Int) := ⟨ri.toNat, by omega⟩
      have hr8 : r < 8 := by omega
      have hr0 : (0 : Int) ≤ (r : Int) := by omega
      have hr9 : (r : Int) < 8 := by omega
      have hi0 : (0 : Int) ≤ (k : Int) := by omega
      have hi1 : (k : Int) < (L.length : Int) := by omega
      have hrt : ((r : Int)).toNat = r := by omega
      have d0 : wr.cell? ⟨b, off + k * 3, none⟩ = some (.int .i64 (r : Int)) := by have := (hcl k hlt).1; rw [hm] at this; exact this
      have d1 : wr.cell? ⟨b, off + k * 3 + 1, none⟩ = some (.int .i64 x) := by have := (hcl k hlt).2.1; rw [hm] at this; exact this
      have d2 : wr.cell? ⟨b, off + k * 3 + 2, none⟩ = some (.int .i64 y) := by have := (hcl k hlt).2.2; rw [hm] at this; exact this
      have HTK := hide (adds_take f L k hlt)
      rw [hm] at HTK
      unfold addS at HTK
      simp only [hrt] at HTK
      have HLF : Hid ((adds f (L.take k) r).length ≤ 100000) := hide (by
        have h1 := room_le (adds f (L.take k)) r hr8
        have h2 := adds_le (L.take k) f
        have h3 := List.length_take_le k L
        have h4 := HF.out
        have h5 := HLL.out
        have h6 := HN.out
        omega)
      clear hcl hm hr3
      have hbx := (more (start wr) (.cells #[.int .i64 (r : Int), .int .i64 x, .int .i64 y] 55)).drew
      have q0 : ((wr.alloc (.cells #[.int .i64 (r : Int), .int .i64 x, .int .i64 y] 55)).drew).cell? ⟨wr.heap.size, 0, none⟩ = some (.int .i64 (r : Int)) := (box3 wr (r : Int) x y).1
      have q1 : ((wr.alloc (.cells #[.int .i64 (r : Int), .int .i64 x, .int .i64 y] 55)).drew).cell? ⟨wr.heap.size, 1, none⟩ = some (.int .i64 x) := (box3 wr (r : Int) x y).2.1
      have q2 : ((wr.alloc (.cells #[.int .i64 (r : Int), .int .i64 x, .int .i64 y] 55)).drew).cell? ⟨wr.heap.size, 2, none⟩ = some (.int .i64 y) := (box3 wr (r : Int) x y).2.2
      have HLX := hide (HLK.out.keep hbx)
      have hcx := HLX.out.cell r hr8
      have HBB := hide hbx
      have HOX := hide (OwnC.keep HO.out hbx)
      clear hbx hmem hrt
      go_wp2_with fail
      refine wp_region_still_tail 8 (by kernel_rfl) (by kernel_rfl) ?_
      simp only [List.take_succ_cons, List.take_zero, List.drop_succ_cons, List.drop_zero]
      change wpStill _ _ ((wr.alloc (.cells #[.int .i64 (r : Int), .int .i64 x, .int .i64 y] 55)).drew) (fun a' => wpList _ _ _ _ a' ((wr.alloc (.cells #[.int .i64 (r : Int), .int .i64 x, .int .i64 y] 55)).drew)) _ _
      generalize (wr.alloc (.cells #[.int .i64 (r : Int), .int .i64 x, .int .i64 y] 55)).drew = V at *
      iterate 8 still_step
      refine wpStill_nil ?_
      go_wp2_with fail
      refine (addSet_any (bs r) (adds f (L.take k) r) x y V (HLX.out.set r hr8) (by have := HLF.out; omega)).mono ?_
      rintro e w2 ⟨rfl, hs2, hc2⟩
      have HL2 := hide (HLX.out.step hr8 hs2 hc2)
      have HC2 := hide (HC.out.trans ((ChgL.of HBB.out).trans (ChgL.chg hr8 hc2)))
      have HO2 := hide (OwnC.otherO HOX.out (HLX.out.one r hr8) hc2)
      clear hs2 hc2 q0 q1 q2 hcx d0 d1 d2
      go_wp2_with fail
      go_roundw
      case rel => exact ⟨k + 1, by omega, by go_num, by rw [HTK.out]; exact hide HL2.out, hide HC2.out, hide HO2.out⟩
      case measure => simp [intOf]; omega
    · obtain rfl : k = L.length := by omega
      rw [List.take_length] at HLK
      go_wp2_with fail
      go_end0
      exact ⟨rfl, by (try rw [HLE.out]); exact HLK.out, (ChgL.of HB1.out).trans HC.out⟩

set_option maxRecDepth 100000 in
set_option maxHeartbeats 4000000 in
theorem cutR_any (g : Nat) (bs : Nat → Nat) (f : Rm) (A : Option Addr) (n c : Nat) (l : List C) (w : World) (h : LeaseAt w g bs f) (hr : RowC w A l) (he : n = l.length) (hn : l.length ≤ 40000) (hf : (outC f).length ≤ 40000) :
    Calls Try.prog 29 #[.pointer (some ⟨g, 0, none⟩), .slice A n c] w (TurnsL w g bs (cuts f (neatC l))) := by
  have HF := hide hf
  have HNF := hide h.neat
  have HFO := hide h.one
  subst he
  have H := hide h
  have HR := hide hr
  have HN := hide hn
  clear h hr hn
  go_enter Try.func29, Try.ntmps29
  go_wp2_with fail
  refine (Neat_any A _ c l _ HR.out rfl (by have := HN.out; omega)).mono ?_
  rintro e w1 ⟨v1, rfl, ho1, hb1⟩
  obtain ⟨A1, c1, rfl, hr1⟩ := ho1.row
  have HR1 := hide hr1
  have HOO := hide ho1
  have HL1 := hide (H.out.keep hb1)
  have HB1 := hide hb1
  have HLO : Hid (∀ c ∈ neatC l, 0 ≤ c.1 ∧ c.1 < 8) := hide (outC_lo _)
  have HLL := hide (neatC_le l)
  clear ho1 hb1 hr1 HR H
  have HOV : Hid (OwnC w1 w.heap.size (.slice A1 (neatC l).length c1) (neatC l)) := hide HOO.out
  generalize hLe : neatC l = L at *
  have HLE := hide hLe
  have hll : L.length ≤ 40000 := by have := HLL.out; have := HN.out; omega
  clear hLe
  go_wp2_with fail
  go_loopw [9] (fun i wr => ∃ k : Nat, k ≤ L.length ∧ i = .int .i64 k ∧ Hid (LeaseAt wr g bs (cuts f (L.take k))) ∧ Hid (ChgL bs w1 wr) ∧ Hid (OwnC wr w.heap.size (.slice A1 L.length c1) L)) (fun i _ => L.length - (intOf i).toNat)
  case atStart => exact ⟨0, Nat.zero_le _, rfl, hide HL1.out, hide (ChgL.of (start _)), hide HOV.out⟩
  case round =>
    obtain ⟨k, hk, rfl, HLK, HC, HO⟩ := hrel
    by_cases hlt : k < L.length
    · obtain ⟨A3, c3, he3, hr3⟩ := HO.out.row
      injection he3 with he3 _ he4
      subst he3 he4
      obtain ⟨b, off, rfl, hb, hcl⟩ := hr3 (by intro h0; rw [h0] at hlt; exact absurd hlt (Nat.not_lt_zero _))
      obtain ⟨m, hm⟩ : ∃ m, L[k] = m := ⟨_, rfl⟩
      obtain ⟨ri, x, y⟩ := m
      have hmem := HLO.out L[k] (List.getElem_mem hlt)
      rw [hm] at hmem
      simp only at hmem
      obtain ⟨r, rfl⟩ : ∃ r : Nat, ri = (r : Int) := ⟨ri.toNat, by omega⟩
      have hr8 : r < 8 := by omega
      have hr0 : (0 : Int) ≤ (r : Int) := by omega
      have hr9 : (r : Int) < 8 := by omega
      have hi0 : (0 : Int) ≤ (k : Int) := by omega
      have hi1 : (k : Int) < (L.length : Int) := by omega
      have hrt : ((r : Int)).toNat = r := by omega
      have d0 : wr.cell? ⟨b, off + k * 3, none⟩ = some (.int .i64 (r : Int)) := by have := (hcl k hlt).1; rw [hm] at this; exact this
      have d1 : wr.cell? ⟨b, off + k * 3 + 1, none⟩ = some (.int .i64 x) := by have := (hcl k hlt).2.1; rw [hm] at this; exact this
      have d2 : wr.cell? ⟨b, off + k * 3 + 2, none⟩ = some (.int .i64 y) := by have := (hcl k hlt).2.2; rw [hm] at this; exact this
      have HTK := hide (cuts_take f L k hlt)
      rw [hm] at HTK
      unfold cutS at HTK
      simp only [hrt] at HTK
      have HLF : Hid ((cuts f (L.take k) r).length ≤ 100000) := hide (by
        have h1 := room_le (cuts f (L.take k)) r hr8
        have h2 := cuts_le (L.take k) HNF.out
        have h3 := List.length_take_le k L
        have h4 := HF.out
        have h5 := HLL.out
        have h6 := HN.out
        omega)
      clear hcl hm hr3
      have hbx := (more (start wr) (.cells #[.int .i64 (r : Int), .int .i64 x, .int .i64 y] 55)).drew
      have q0 : ((wr.alloc (.cells #[.int .i64 (r : Int), .int .i64 x, .int .i64 y] 55)).drew).cell? ⟨wr.heap.size, 0, none⟩ = some (.int .i64 (r : Int)) := (box3 wr (r : Int) x y).1
      have q1 : ((wr.alloc (.cells #[.int .i64 (r : Int), .int .i64 x, .int .i64 y] 55)).drew).cell? ⟨wr.heap.size, 1, none⟩ = some (.int .i64 x) := (box3 wr (r : Int) x y).2.1
      have q2 : ((wr.alloc (.cells #[.int .i64 (r : Int), .int .i64 x, .int .i64 y] 55)).drew).cell? ⟨wr.heap.size, 2, none⟩ = some (.int .i64 y) := (box3 wr (r : Int) x y).2.2
      have HLX := hide (HLK.out.keep hbx)
      have hcx := HLX.out.cell r hr8
      have HBB := hide hbx
      have HOX := hide (OwnC.keep HO.out hbx)
      clear hbx hmem hrt
      go_wp2_with fail
      refine wp_region_still_tail 8 (by kernel_rfl) (by kernel_rfl) ?_
      simp only [List.take_succ_cons, List.take_zero, List.drop_succ_cons, List.drop_zero]
      change wpStill _ _ ((wr.alloc (.cells #[.int .i64 (r : Int), .int .i64 x, .int .i64 y] 55)).drew) (fun a' => wpList _ _ _ _ a' ((wr.alloc (.cells #[.int .i64 (r : Int), .int .i64 x, .int .i64 y] 55)).drew)) _ _
      generalize (wr.alloc (.cells #[.int .i64 (r : Int), .int .i64 x, .int .i64 y] 55)).drew = V at *
      iterate 8 still_step
      refine wpStill_nil ?_
      go_wp2_with fail
      refine (cutSet_any (bs r) (cuts f (L.take k) r) x y V (HLX.out.set r hr8) (by have := HLF.out; omega)).mono ?_
      rintro e w2 ⟨rfl, hs2, hc2⟩
      have HL2 := hide (HLX.out.step hr8 hs2 hc2)
      have HC2 := hide (HC.out.trans ((ChgL.of HBB.out).trans (ChgL.chg hr8 hc2)))
      have HO2 := hide (OwnC.otherO HOX.out (HLX.out.one r hr8) hc2)
      clear hs2 hc2 q0 q1 q2 hcx d0 d1 d2
      go_wp2_with fail
      go_roundw
      case rel => exact ⟨k + 1, by omega, by go_num, by rw [HTK.out]; exact hide HL2.out, hide HC2.out, hide HO2.out⟩
      case measure => simp [intOf]; omega
    · obtain rfl : k = L.length := by omega
      rw [List.take_length] at HLK
      go_wp2_with fail
      go_end0
      exact ⟨rfl, by (try rw [HLE.out]); exact HLK.out, (ChgL.of HB1.out).trans HC.out⟩
end Go.Proofs.Ytphojcnehgdbmaa.S2

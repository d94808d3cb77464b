/- DeedSpoils. Written by recipes/de9.py. -/
import Derived.Test.YtocnobgdlgndjaaGreatDeL
import Derived.Test.YtocnobgdlgndjaaGreatDeMathB
namespace Go.Proofs.YtocnobgdlgndjaaGreat
open Go.RowKit Rul De Cl Go.Sort

theorem row_minus (w : World) (y : TypeId) : S2.RowC (w.alloc (.cells #[.int .i64 (-1), .int .i64 0, .int .i64 0] y)) (some ⟨w.heap.size, 0, none⟩) [(-1, (0, 0))] := fun _ =>
  ⟨w.heap.size, 0, rfl, by simp, fun i hi => by
    have : i = 0 := by simpa using hi
    subst this
    refine ⟨?_, ?_, ?_⟩ <;> rw [World.cell?_alloc_at _ _ _ _ rfl] <;> rfl⟩
theorem fewD_cl {d : D} (h : fewD d = true) : d.cl.length ≤ 200 := by unfold fewD at h; simp only [Bool.and_eq_true, decide_eq_true_eq] at h; exact h.2.2
set_option linter.unusedSimpArgs false in
set_option maxRecDepth 100000 in
set_option maxHeartbeats 32000000 in
theorem sp14_any (d : D) (m : DM) (k : Int) (w : World) (h : DO w d m) (hk0 : 0 ≤ k) (_hk1 : k ≤ 255) :
    Calls Tryz.prog 4 #[.agg (dC d m).toArray, .int .u8 k] w fun e w' => e = .returned (.bool true) ∧ Below w.heap.size w w' := by
  have hr : k.tmod 6 = 0 ∨ k.tmod 6 = 1 ∨ k.tmod 6 = 2 ∨ k.tmod 6 = 3 ∨ k.tmod 6 = 4 ∨ k.tmod 6 = 5 := by
    rw [Int.tmod_eq_emod_of_nonneg hk0]; omega
  have HK := hide hr
  have HB := hide (more (start w) (.cells (dC d m).toArray 34))
  have OD := hide (h.keep HB.out)
  have RD := hide (range_new w (dC d m) 34)
  obtain ⟨z0, e0'⟩ : ∃ z, fewD d = z := ⟨_, rfl⟩
  have F0 := hide e0'
  obtain ⟨z1, e1'⟩ : ∃ z, isD d = z := ⟨_, rfl⟩
  have HD := hide e1'
  clear h hk0 _hk1 hr e0' e1'
  go_enter Tryz.func4, Tryz.ntmps4
  go_wp2_with fail
  generalize w.alloc (.cells (dC d m).toArray 34) = W at *
  refine (known_any _).mono ?_
  rintro _ w1 ⟨rfl, hb⟩
  replace HB := hide (andthen HB.out hb)
  replace OD := hide (OD.out.keep hb)
  replace RD := hide (range_keep RD.out hb)
  clear hb
  go_wp2_with (refine load_deed rfl _ rfl _ _ rfl _ RD.out rfl ?_)
  refine (fewD_c d m z0 _ F0.out).mono ?_
  rintro _ w2 ⟨rfl, hb⟩
  replace HB := hide (andthen HB.out hb)
  replace OD := hide (OD.out.keep hb)
  replace RD := hide (range_keep RD.out hb)
  clear hb
  cases z0
  · go_wp2_with fail
    go_ret
    exact ⟨rfl, HB.out⟩
  have LD := hide (OD.out.few F0.out)
  have HLE := hide (fewD_cl F0.out)
  go_wp2_with (refine load_deed rfl _ rfl _ _ rfl _ RD.out rfl ?_)
  refine (dIs_c d m z1 _ LD.out HD.out).mono ?_
  rintro _ W ⟨rfl, hb⟩
  replace HB := hide (andthen HB.out hb)
  replace LD := hide (LD.out.keep hb)
  replace RD := hide (range_keep RD.out hb)
  have HZ := hide OD.out.cz
  clear hb OD F0
  cases z1
  · go_wp2_with fail
    go_ret
    exact ⟨rfl, HB.out⟩
  go_upto_region 6 with (first | refine load_deed rfl _ rfl _ _ rfl _ RD.out rfl ?_ | refine store_new rfl _ _ _ rfl W _ (dC d m).toArray rfl rfl rfl (by kernel_rfl) (by kernel_rfl) (by kernel_rfl) ?_)
  have HBX := hide (more (start W) (.cells (dC d m).toArray 34))
  have RX0 := hide (range_new W (dC d m) 34)
  have HF := hide (fun i => World.frozen?_alloc_at (w := W) (dC d m).toArray 34 W.heap.size i rfl)
  have hs : (W.alloc (.cells (dC d m).toArray 34)).heap.size = W.heap.size + 1 := by simp
  have HS := hide hs
  clear hs
  generalize W.alloc (.cells (dC d m).toArray 34) = Wx at *
  rcases HK.out with hr | hr | hr | hr | hr | hr
  · have c := range_cell RX0.out 0 0 _ rfl rfl
    have f := HF.out 0
    have RX := hide (show (Wx.setCell ⟨W.heap.size, 0, none⟩ (.int .i64 9)).rangeAt W.heap.size 0 (dC ({ d with kd := 9 }) m) from range_set RX0.out 0 0 (.int .i64 9) (by rw [dC_len]; decide) rfl)
    have HBY := hide (Below.setCell HBX.out (p := ⟨W.heap.size, 0, none⟩) (Nat.le_refl _) (.int .i64 9))
    replace HB := hide (andthen HB.out HBY.out)
    replace RD := hide (range_keep RD.out HBY.out)
    replace LD := hide (LD.out.keep HBY.out)
    have LX := hide (show DL (Wx.setCell ⟨W.heap.size, 0, none⟩ (.int .i64 9)) ({ d with kd := 9 }) m from ⟨LD.out.e, LD.out.c, LD.out.cl, LD.out.b⟩)
    have ISX := hide (spo0 d)
    clear HBX RX0 HF HS HZ HBY HK
    go_wp2_with (first | refine load_deed rfl _ rfl _ _ rfl _ RD.out rfl ?_ | refine load_deed rfl _ rfl _ _ rfl _ RX.out rfl ?_)
    refine (dIs_c ({ d with kd := 9 }) m false _ LX.out ISX.out).mono ?_
    rintro _ w8 ⟨rfl, hb⟩
    replace HB := hide (andthen HB.out hb)
    replace RD := hide (range_keep RD.out hb)
    replace RX := hide (range_keep RX.out hb)
    replace LD := hide (LD.out.keep hb)
    replace LX := hide (LX.out.keep hb)
    clear hb
    go_wp2_with (first | refine load_deed rfl _ rfl _ _ rfl _ RD.out rfl ?_ | refine load_deed rfl _ rfl _ _ rfl _ RX.out rfl ?_)
    refine (dSame_any d ({ d with kd := 9 }) m m false _ LD.out LX.out (same_noD HD.out ISX.out)).mono ?_
    rintro _ w9 ⟨rfl, hb⟩
    replace HB := hide (andthen HB.out hb)
    clear hb
    go_wp2_with fail
    go_ret
    exact ⟨rfl, HB.out⟩
  · have c := range_cell RX0.out 2 2 _ rfl rfl
    have f := HF.out 2
    have RX := hide (show (Wx.setCell ⟨W.heap.size, 2, none⟩ (.int .i64 4)).rangeAt W.heap.size 0 (dC ({ d with id := (d.id.1, 4) }) m) from range_set RX0.out 2 2 (.int .i64 4) (by rw [dC_len]; decide) rfl)
    have HBY := hide (Below.setCell HBX.out (p := ⟨W.heap.size, 2, none⟩) (Nat.le_refl _) (.int .i64 4))
    replace HB := hide (andthen HB.out HBY.out)
    replace RD := hide (range_keep RD.out HBY.out)
    replace LD := hide (LD.out.keep HBY.out)
    have LX := hide (show DL (Wx.setCell ⟨W.heap.size, 2, none⟩ (.int .i64 4)) ({ d with id := (d.id.1, 4) }) m from ⟨LD.out.e, LD.out.c, LD.out.cl, LD.out.b⟩)
    have ISX := hide (spo1 d)
    clear HBX RX0 HF HS HZ HBY HK
    go_wp2_with (first | refine load_deed rfl _ rfl _ _ rfl _ RD.out rfl ?_ | refine load_deed rfl _ rfl _ _ rfl _ RX.out rfl ?_)
    refine (dIs_c ({ d with id := (d.id.1, 4) }) m false _ LX.out ISX.out).mono ?_
    rintro _ w8 ⟨rfl, hb⟩
    replace HB := hide (andthen HB.out hb)
    replace RD := hide (range_keep RD.out hb)
    replace RX := hide (range_keep RX.out hb)
    replace LD := hide (LD.out.keep hb)
    replace LX := hide (LX.out.keep hb)
    clear hb
    go_wp2_with (first | refine load_deed rfl _ rfl _ _ rfl _ RD.out rfl ?_ | refine load_deed rfl _ rfl _ _ rfl _ RX.out rfl ?_)
    refine (dSame_any d ({ d with id := (d.id.1, 4) }) m m false _ LD.out LX.out (same_noD HD.out ISX.out)).mono ?_
    rintro _ w9 ⟨rfl, hb⟩
    replace HB := hide (andthen HB.out hb)
    clear hb
    go_wp2_with fail
    go_ret
    exact ⟨rfl, HB.out⟩
  · have c := range_cell RX0.out 18 18 _ rfl rfl
    have f := HF.out 18
    have RX := hide (show (Wx.setCell ⟨W.heap.size, 18, none⟩ (.int .i64 1000001)).rangeAt W.heap.size 0 (dC ({ d with n := 1000001 }) m) from range_set RX0.out 18 18 (.int .i64 1000001) (by rw [dC_len]; decide) rfl)
    have HBY := hide (Below.setCell HBX.out (p := ⟨W.heap.size, 18, none⟩) (Nat.le_refl _) (.int .i64 1000001))
    replace HB := hide (andthen HB.out HBY.out)
    replace RD := hide (range_keep RD.out HBY.out)
    replace LD := hide (LD.out.keep HBY.out)
    have LX := hide (show DL (Wx.setCell ⟨W.heap.size, 18, none⟩ (.int .i64 1000001)) ({ d with n := 1000001 }) m from ⟨LD.out.e, LD.out.c, LD.out.cl, LD.out.b⟩)
    have ISX := hide (spo2 d)
    clear HBX RX0 HF HS HZ HBY HK
    go_wp2_with (first | refine load_deed rfl _ rfl _ _ rfl _ RD.out rfl ?_ | refine load_deed rfl _ rfl _ _ rfl _ RX.out rfl ?_)
    refine (dIs_c ({ d with n := 1000001 }) m false _ LX.out ISX.out).mono ?_
    rintro _ w8 ⟨rfl, hb⟩
    replace HB := hide (andthen HB.out hb)
    replace RD := hide (range_keep RD.out hb)
    replace RX := hide (range_keep RX.out hb)
    replace LD := hide (LD.out.keep hb)
    replace LX := hide (LX.out.keep hb)
    clear hb
    go_wp2_with (first | refine load_deed rfl _ rfl _ _ rfl _ RD.out rfl ?_ | refine load_deed rfl _ rfl _ _ rfl _ RX.out rfl ?_)
    refine (dSame_any d ({ d with n := 1000001 }) m m false _ LD.out LX.out (same_noD HD.out ISX.out)).mono ?_
    rintro _ w9 ⟨rfl, hb⟩
    replace HB := hide (andthen HB.out hb)
    clear hb
    go_wp2_with fail
    go_ret
    exact ⟨rfl, HB.out⟩
  · have c := range_cell RX0.out 17 17 _ rfl rfl
    have f := HF.out 17
    have RX := hide (show (Wx.setCell ⟨W.heap.size, 17, none⟩ (.int .i64 (-1))).rangeAt W.heap.size 0 (dC ({ d with pe := -1 }) m) from range_set RX0.out 17 17 (.int .i64 (-1)) (by rw [dC_len]; decide) rfl)
    have HBY := hide (Below.setCell HBX.out (p := ⟨W.heap.size, 17, none⟩) (Nat.le_refl _) (.int .i64 (-1)))
    replace HB := hide (andthen HB.out HBY.out)
    replace RD := hide (range_keep RD.out HBY.out)
    replace LD := hide (LD.out.keep HBY.out)
    have LX := hide (show DL (Wx.setCell ⟨W.heap.size, 17, none⟩ (.int .i64 (-1))) ({ d with pe := -1 }) m from ⟨LD.out.e, LD.out.c, LD.out.cl, LD.out.b⟩)
    have ISX := hide (spo3 d)
    clear HBX RX0 HF HS HZ HBY HK
    go_wp2_with (first | refine load_deed rfl _ rfl _ _ rfl _ RD.out rfl ?_ | refine load_deed rfl _ rfl _ _ rfl _ RX.out rfl ?_)
    refine (dIs_c ({ d with pe := -1 }) m false _ LX.out ISX.out).mono ?_
    rintro _ w8 ⟨rfl, hb⟩
    replace HB := hide (andthen HB.out hb)
    replace RD := hide (range_keep RD.out hb)
    replace RX := hide (range_keep RX.out hb)
    replace LD := hide (LD.out.keep hb)
    replace LX := hide (LX.out.keep hb)
    clear hb
    go_wp2_with (first | refine load_deed rfl _ rfl _ _ rfl _ RD.out rfl ?_ | refine load_deed rfl _ rfl _ _ rfl _ RX.out rfl ?_)
    refine (dSame_any d ({ d with pe := -1 }) m m false _ LD.out LX.out (same_noD HD.out ISX.out)).mono ?_
    rintro _ w9 ⟨rfl, hb⟩
    replace HB := hide (andthen HB.out hb)
    clear hb
    go_wp2_with fail
    go_ret
    exact ⟨rfl, HB.out⟩
  · have c := range_cell RX0.out 21 21 _ rfl rfl
    have f := HF.out 21
    have RX := hide (show (Wx.setCell ⟨W.heap.size, 21, none⟩ (.int .i64 1)).rangeAt W.heap.size 0 (dC ({ d with b := { d.b with st := 1 } }) m) from range_set RX0.out 21 21 (.int .i64 1) (by rw [dC_len]; decide) rfl)
    have HBY := hide (Below.setCell HBX.out (p := ⟨W.heap.size, 21, none⟩) (Nat.le_refl _) (.int .i64 1))
    replace HB := hide (andthen HB.out HBY.out)
    replace RD := hide (range_keep RD.out HBY.out)
    replace LD := hide (LD.out.keep HBY.out)
    have LX := hide (show DL (Wx.setCell ⟨W.heap.size, 21, none⟩ (.int .i64 1)) ({ d with b := { d.b with st := 1 } }) m from ⟨LD.out.e, LD.out.c, LD.out.cl, LD.out.b⟩)
    have ISX := hide (spo4 d)
    clear HBX RX0 HF HS HZ HBY HK
    go_wp2_with (first | refine load_deed rfl _ rfl _ _ rfl _ RD.out rfl ?_ | refine load_deed rfl _ rfl _ _ rfl _ RX.out rfl ?_)
    refine (dIs_c ({ d with b := { d.b with st := 1 } }) m false _ LX.out ISX.out).mono ?_
    rintro _ w8 ⟨rfl, hb⟩
    replace HB := hide (andthen HB.out hb)
    replace RD := hide (range_keep RD.out hb)
    replace RX := hide (range_keep RX.out hb)
    replace LD := hide (LD.out.keep hb)
    replace LX := hide (LX.out.keep hb)
    clear hb
    go_wp2_with (first | refine load_deed rfl _ rfl _ _ rfl _ RD.out rfl ?_ | refine load_deed rfl _ rfl _ _ rfl _ RX.out rfl ?_)
    refine (dSame_any d ({ d with b := { d.b with st := 1 } }) m m false _ LD.out LX.out (same_noD HD.out ISX.out)).mono ?_
    rintro _ w9 ⟨rfl, hb⟩
    replace HB := hide (andthen HB.out hb)
    clear hb
    go_wp2_with fail
    go_ret
    exact ⟨rfl, HB.out⟩
  · have LX0 := hide (LD.out.keep HBX.out)
    have C0 := hide (range_cell RX0.out 16 16 _ rfl rfl)
    have a3 := cell_keepA HBX.out (range_cell RD.out 16 16 _ rfl rfl)
    go_upto_region 18 with (first
      | (refine S2.wp_rowC (A := m.A) (m := d.cl.length) (c := m.c) (k := d.cl) (B := Wx.heap.size) (l := []) rfl _ _ rfl rfl rfl rfl HZ.out LX0.out.c (S2.ownC_nil _ _) (Nat.le_refl _) (Nat.zero_le _) (by have := LX0.out.cl; omega) ?_
         intro v1 W1 ho1 hb1
         rw [List.nil_append] at ho1)
      | (refine S2.wp_oneC (p := (-1, (0, 0))) rfl _ _ rfl rfl rfl rfl ho1 hb1.size (by have := LX0.out.cl; omega) ?_
         intro v2 W2 ho2 hb2
         obtain ⟨A2, c2, hv2, hr2⟩ := S2.OwnC.row ho2
         have HO2 := hide ho2
         generalize hN2 : (d.cl ++ [(-1, (0, 0))]).length = n2 at hv2
         subst hv2
         have HN2 := hide hN2
         have HB2 := hide (hb1.trans hb2)
         have c := cell_keepA HB2.out C0.out
         have f := (HB2.out.frozen (p := ⟨W.heap.size, 16, none⟩) (by have := HS.out; show W.heap.size < _; omega)).trans (HF.out 16)
         clear hN2 hr2 ho2 ho1 hb1 hb2))
    have HBW := hide (andthen HBX.out HB2.out)
    have RX := hide (show (W2.setCell ⟨W.heap.size, 16, none⟩ (.slice A2 n2 c2)).rangeAt W.heap.size 0 (dC ({ d with cl := d.cl ++ [(-1, (0, 0))] }) ({ m with A := A2, c := c2 })) from by have q := HN2.out; subst q; exact range_set (range_keep RX0.out HB2.out) 16 16 (.slice A2 (d.cl ++ [(-1, (0, 0))]).length c2) (by rw [dC_len]; decide) rfl)
    have HBY := hide (Below.setCell HBW.out (p := ⟨W.heap.size, 16, none⟩) (Nat.le_refl _) (.slice A2 n2 c2))
    have HOY := hide (own_set HO2.out W.heap.size 16 (.slice A2 n2 c2) (by have := HS.out; omega))
    replace HB := hide (andthen HB.out HBY.out)
    replace RD := hide (range_keep RD.out HBY.out)
    replace LD := hide (LD.out.keep HBY.out)
    have LX := hide (show DL (W2.setCell ⟨W.heap.size, 16, none⟩ (.slice A2 n2 c2)) ({ d with cl := d.cl ++ [(-1, (0, 0))] }) ({ m with A := A2, c := c2 }) from ⟨LD.out.e, own_row HOY.out, by have := LX0.out.cl; have := HLE.out; simp only [List.length_append, List.length_cons, List.length_nil]; omega, LD.out.b⟩)
    have ISX := hide (spo5 d)
    clear HBX RX0 HF HS HZ HBY HK HBW HOY HO2 HN2 HB2 C0 LX0
    go_wp2_with (first | refine load_deed rfl _ rfl _ _ rfl _ RD.out rfl ?_ | refine load_deed rfl _ rfl _ _ rfl _ RX.out rfl ?_)
    refine (dIs_c ({ d with cl := d.cl ++ [(-1, (0, 0))] }) ({ m with A := A2, c := c2 }) false _ LX.out ISX.out).mono ?_
    rintro _ w8 ⟨rfl, hb⟩
    replace HB := hide (andthen HB.out hb)
    replace RD := hide (range_keep RD.out hb)
    replace RX := hide (range_keep RX.out hb)
    replace LD := hide (LD.out.keep hb)
    replace LX := hide (LX.out.keep hb)
    clear hb
    go_wp2_with (first | refine load_deed rfl _ rfl _ _ rfl _ RD.out rfl ?_ | refine load_deed rfl _ rfl _ _ rfl _ RX.out rfl ?_)
    refine (dSame_any d ({ d with cl := d.cl ++ [(-1, (0, 0))] }) m ({ m with A := A2, c := c2 }) false _ LD.out LX.out (same_noD HD.out ISX.out)).mono ?_
    rintro _ w9 ⟨rfl, hb⟩
    replace HB := hide (andthen HB.out hb)
    clear hb
    go_wp2_with fail
    go_ret
    exact ⟨rfl, HB.out⟩
end Go.Proofs.YtocnobgdlgndjaaGreat

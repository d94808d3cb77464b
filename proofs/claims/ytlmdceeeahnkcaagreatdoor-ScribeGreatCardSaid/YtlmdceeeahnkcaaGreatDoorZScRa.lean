/- Package scribe: Read. -/
import Derived.Test.YtlmdceeeahnkcaaGreatDoorZQ11
namespace Go.Proofs.YtlmdceeeahnkcaaGreatDoor
open Go.RowKit Rul Rt Go.Sort Sc De Cl

theorem KI.keep {S : Nat} {w w1 : World} {A : Option Addr} {l : List Int} (h : KI S w A l) (hb : Go.RowKit.Below w.heap.size w w1) : KI S w1 A l := ⟨h.r.keep hb, h.b⟩
theorem KD.keep {S : Nat} {w w1 : World} {A : Option Addr} {l : List Wd} (h : KD S w A l) (hb : Go.RowKit.Below w.heap.size w w1) : KD S w1 A l := ⟨h.r.keep hb, h.b⟩
theorem KC.keep {S : Nat} {w w1 : World} {A : Option Addr} {l : List C} (h : KC S w A l) (hb : Go.RowKit.Below w.heap.size w w1) : KC S w1 A l := ⟨h.r.keep hb, h.b⟩
theorem EvF.keep {S : Nat} {w w1 : World} {e : Ev.E} {m : Mem} (h : EvF S w e m) (hb : Go.RowKit.Below w.heap.size w w1) : EvF S w1 e m := ⟨h.ro.keep hb, h.rd.keep hb, h.rm.keep hb, h.ry.keep hb, h.rx.keep hb⟩
theorem DF.keep {S : Nat} {w w1 : World} {d : D} {m : DM} (h : DF S w d m) (hb : Go.RowKit.Below w.heap.size w w1) : DF S w1 d m := ⟨h.e.keep hb, h.c.keep hb, h.b.keep hb⟩
theorem rd_ans {w w' : World} (hb : Go.RowKit.Below w.heap.size w w') : RdA w none (.returned (.tuple #[.agg (dC d0 mD).toArray, .int .i64 20])) w' := ⟨hb, rfl⟩
theorem readE_bad {s : Tx} (h : ¬ sld (uns s) = s) : readE s = none := by unfold readE; rw [if_neg (fun g => h g.1)]
theorem readE_no {s : Tx} (h : isD (rdD (uns s)) = false) : readE s = none := by unfold readE; rw [if_neg (fun g => by rw [g.2.1] at h; cases h)]
theorem readE_ne {s : Tx} (h : ¬ jn (dN (rdD (uns s))) = uns s) : readE s = none := by unfold readE; rw [if_neg (fun g => h g.2.2)]
theorem readE_yes {s : Tx} (h1 : sld (uns s) = s) (h2 : isD (rdD (uns s)) = true) (h3 : jn (dN (rdD (uns s))) = uns s) : readE s = some (rdD (uns s)) := by unfold readE; rw [if_pos ⟨h1, h2, h3⟩]
set_option maxRecDepth 100000 in
set_option maxHeartbeats 6400000 in
theorem Read_any (s : Tx) (w : World) (he : Env w) (hs : s.length ≤ 10000) : Calls Tryz.prog 12 #[.string (str s)] w (RdA w (readE s)) := by
  have HT := hide (there_new w (dC d0 mD).toArray 34 35 (by decide))
  have HB := hide (more (start w) (.cells (dC d0 mD).toArray 34))
  have HE := hide (he.keep HB.out)
  have HL := hide hs
  have HU := hide (fun w b he hd => unsealed_any s w he (by have := hs; omega) b hd)
  have HUL := hide (Nat.le_trans (uns_le s) hs)
  clear he hs
  by_cases h1 : sld (uns s) = s
  · have HU2 := hide (fun w he => HU.out w true he (decide_eq_true h1))
    have HR := hide (fun w he => read_any (uns s) w he (by have := HUL.out; omega))
    have HDS := hide (rd_small 10000 (uns s) HUL.out)
    cases h2 : isD (rdD (uns s)) with
    | false =>
      have HA := hide (readE_no h2)
      rw [HA.out]
      clear HU h1 HA
      generalize rdD (uns s) = d at *
      have HI := hide (fun m w h => dIs_c d m false w h h2)
      clear h2
      go_enter Tryz.func12, Tryz.ntmps12
      go_wp2_with fail
      refine (HU2.out _ HE.out).mono ?_
      rintro e w1 ⟨rfl, hb⟩
      replace HB := hide (andthen HB.out hb)
      replace HT := hide (there_below HT.out hb (by simp))
      replace HE := hide (HE.out.keep hb)
      have HZ := hide (show w.heap.size + 1 ≤ w1.heap.size from by have := hb.size; simp at this; omega)
      clear hb
      go_wp2_with fail
      refine (HR.out _ HE.out).mono ?_
      rintro e w2 ⟨m, rfl, hd, hb⟩
      replace HB := hide (andthen HB.out hb)
      replace HT := hide (there_below HT.out hb (by have := HZ.out; omega))
      replace HE := hide (HE.out.keep hb)
      have HD := hide (hd.low HZ.out)
      have HZ2 := hide (Nat.le_trans HZ.out hb.size)
      clear hd hb
      have R := hide (range_new w2 (dC d m) 34)
      have hb3 := more (start w2) (.cells (dC d m).toArray 34)
      replace HB := hide (andthen HB.out hb3)
      replace HT := hide (there_below HT.out hb3 (by have := HZ2.out; omega))
      replace HE := hide (HE.out.keep hb3)
      replace HD := hide (HD.out.keep hb3)
      have HZ3 := hide (Nat.le_trans HZ2.out hb3.size)
      clear hb3
      go_wp2_with (first | refine load_deed rfl _ rfl _ _ rfl _ R.out rfl ?_ | refine store_new rfl _ _ _ rfl w2 _ (dC d m).toArray rfl rfl rfl (by kernel_rfl) (by kernel_rfl) (by kernel_rfl) ?_)
      refine (HI.out _ _ (HD.out.dl HDS.out)).mono ?_
      rintro e w4 ⟨rfl, hb⟩
      replace HB := hide (andthen HB.out hb)
      replace HT := hide (there_below HT.out hb (by have := HZ3.out; omega))
      replace HE := hide (HE.out.keep hb)
      replace HD := hide (HD.out.keep hb)
      have HZ4 := hide (Nat.le_trans HZ3.out hb.size)
      replace R := hide (range_keep R.out hb)
      clear hb
      go_wp2_with (first | refine store_mid rfl _ _ _ rfl w.heap.size 0 (dC d0 mD).toArray rfl rfl HT.out (by kernel_rfl) (by kernel_rfl) ?_ | refine build_at rfl 34 _ rfl (dC d0 mD).toArray (by kernel_rfl) ?_)
      have hc := World.rangeAt_setCells_same w4 w.heap.size 0 (dC d0 mD) HT.out
      have HB3 := hide (below_setCells (dC d0 mD) w.heap.size 0 HB.out (Nat.le_refl _))
      go_wp2_with fail
      refine bodyPost_ret (v := .tuple #[.agg (dC d0 mD).toArray, .int .i64 20]) ?_ ?_ ?_
      · exact results_mid2 (p := 2) (u := 3) rfl _ _ w.heap.size (dC d0 mD) _ rfl hc Tryz.underlying34 rfl (by kernel_rfl)
      · rfl
      · exact rd_ans HB3.out
    | true =>
      by_cases h3 : jn (dN (rdD (uns s))) = uns s
      · rw [readE_yes h1 h2 h3]
        clear HU h1
        generalize rdD (uns s) = d at *
        have HI := hide (fun m w h => dIs_c d m true w h h2)
        have HW := hide (fun m w he h => written_any d m w he h h2)
        have q1 := str_tl (jn (dN d))
        have q2 := str_tl (uns s)
        have q3 : (jn (dN d) == uns s) = true := by rw [tx_dec, decide_eq_true h3]
        clear h2 h3
        generalize jn (dN d) = J at *
        generalize uns s = u at *
        go_enter Tryz.func12, Tryz.ntmps12
        go_wp2_with fail
        refine (HU2.out _ HE.out).mono ?_
        rintro e w1 ⟨rfl, hb⟩
        replace HB := hide (andthen HB.out hb)
        replace HT := hide (there_below HT.out hb (by simp))
        replace HE := hide (HE.out.keep hb)
        have HZ := hide (show w.heap.size + 1 ≤ w1.heap.size from by have := hb.size; simp at this; omega)
        clear hb
        go_wp2_with fail
        refine (HR.out _ HE.out).mono ?_
        rintro e w2 ⟨m, rfl, hd, hb⟩
        replace HB := hide (andthen HB.out hb)
        replace HT := hide (there_below HT.out hb (by have := HZ.out; omega))
        replace HE := hide (HE.out.keep hb)
        have HD := hide (hd.low HZ.out)
        have HZ2 := hide (Nat.le_trans HZ.out hb.size)
        clear hd hb
        have R := hide (range_new w2 (dC d m) 34)
        have hb3 := more (start w2) (.cells (dC d m).toArray 34)
        replace HB := hide (andthen HB.out hb3)
        replace HT := hide (there_below HT.out hb3 (by have := HZ2.out; omega))
        replace HE := hide (HE.out.keep hb3)
        replace HD := hide (HD.out.keep hb3)
        have HZ3 := hide (Nat.le_trans HZ2.out hb3.size)
        clear hb3
        go_wp2_with (first | refine load_deed rfl _ rfl _ _ rfl _ R.out rfl ?_ | refine store_new rfl _ _ _ rfl w2 _ (dC d m).toArray rfl rfl rfl (by kernel_rfl) (by kernel_rfl) (by kernel_rfl) ?_)
        refine (HI.out _ _ (HD.out.dl HDS.out)).mono ?_
        rintro e w4 ⟨rfl, hb⟩
        replace HB := hide (andthen HB.out hb)
        replace HT := hide (there_below HT.out hb (by have := HZ3.out; omega))
        replace HE := hide (HE.out.keep hb)
        replace HD := hide (HD.out.keep hb)
        have HZ4 := hide (Nat.le_trans HZ3.out hb.size)
        replace R := hide (range_keep R.out hb)
        clear hb
        go_wp2_with (refine load_deed rfl _ rfl _ _ rfl _ R.out rfl ?_)
        refine (HW.out _ _ HE.out (HD.out.dl HDS.out)).mono ?_
        rintro e w5 ⟨rfl, hb⟩
        replace HB := hide (andthen HB.out hb)
        replace HT := hide (there_below HT.out hb (by have := HZ4.out; omega))
        replace HD := hide (HD.out.keep hb)
        replace R := hide (range_keep R.out hb)
        clear hb
        go_wp2_with (first | refine load_deed rfl _ rfl _ _ rfl _ R.out rfl ?_ | refine store_mid rfl _ _ _ rfl w.heap.size 0 (dC d m).toArray rfl rfl HT.out (by kernel_rfl) (by kernel_rfl) ?_)
        have hc := World.rangeAt_setCells_same w5 w.heap.size 0 (dC d m) HT.out
        have HB3 := hide (below_setCells (dC d m) w.heap.size 0 HB.out (Nat.le_refl _))
        have HD3 := hide ((HD.out.go (grown_setCells (dC d m) w5 w.heap.size 0) (Nat.lt_succ_self _)).dl HDS.out)
        go_wp2_with fail
        refine bodyPost_ret (v := .tuple #[.agg (dC d m).toArray, .int .i64 0]) ?_ ?_ ?_
        · exact results_mid2 (p := 2) (u := 3) rfl _ _ w.heap.size (dC d m) _ rfl hc Tryz.underlying34 rfl (by kernel_rfl)
        · rfl
        · exact ⟨HB3.out, m, rfl, HD3.out⟩
      · rw [readE_ne h3]
        clear HU h1
        generalize rdD (uns s) = d at *
        have HI := hide (fun m w h => dIs_c d m true w h h2)
        have HW := hide (fun m w he h => written_any d m w he h h2)
        have q1 := str_tl (jn (dN d))
        have q2 := str_tl (uns s)
        have q3 : (jn (dN d) == uns s) = false := by rw [tx_dec, decide_eq_false h3]
        clear h2 h3
        generalize jn (dN d) = J at *
        generalize uns s = u at *
        go_enter Tryz.func12, Tryz.ntmps12
        go_wp2_with fail
        refine (HU2.out _ HE.out).mono ?_
        rintro e w1 ⟨rfl, hb⟩
        replace HB := hide (andthen HB.out hb)
        replace HT := hide (there_below HT.out hb (by simp))
        replace HE := hide (HE.out.keep hb)
        have HZ := hide (show w.heap.size + 1 ≤ w1.heap.size from by have := hb.size; simp at this; omega)
        clear hb
        go_wp2_with fail
        refine (HR.out _ HE.out).mono ?_
        rintro e w2 ⟨m, rfl, hd, hb⟩
        replace HB := hide (andthen HB.out hb)
        replace HT := hide (there_below HT.out hb (by have := HZ.out; omega))
        replace HE := hide (HE.out.keep hb)
        have HD := hide (hd.low HZ.out)
        have HZ2 := hide (Nat.le_trans HZ.out hb.size)
        clear hd hb
        have R := hide (range_new w2 (dC d m) 34)
        have hb3 := more (start w2) (.cells (dC d m).toArray 34)
        replace HB := hide (andthen HB.out hb3)
        replace HT := hide (there_below HT.out hb3 (by have := HZ2.out; omega))
        replace HE := hide (HE.out.keep hb3)
        replace HD := hide (HD.out.keep hb3)
        have HZ3 := hide (Nat.le_trans HZ2.out hb3.size)
        clear hb3
        go_wp2_with (first | refine load_deed rfl _ rfl _ _ rfl _ R.out rfl ?_ | refine store_new rfl _ _ _ rfl w2 _ (dC d m).toArray rfl rfl rfl (by kernel_rfl) (by kernel_rfl) (by kernel_rfl) ?_)
        refine (HI.out _ _ (HD.out.dl HDS.out)).mono ?_
        rintro e w4 ⟨rfl, hb⟩
        replace HB := hide (andthen HB.out hb)
        replace HT := hide (there_below HT.out hb (by have := HZ3.out; omega))
        replace HE := hide (HE.out.keep hb)
        replace HD := hide (HD.out.keep hb)
        have HZ4 := hide (Nat.le_trans HZ3.out hb.size)
        replace R := hide (range_keep R.out hb)
        clear hb
        go_wp2_with (refine load_deed rfl _ rfl _ _ rfl _ R.out rfl ?_)
        refine (HW.out _ _ HE.out (HD.out.dl HDS.out)).mono ?_
        rintro e w5 ⟨rfl, hb⟩
        replace HB := hide (andthen HB.out hb)
        replace HT := hide (there_below HT.out hb (by have := HZ4.out; omega))
        clear hb
        go_wp2_with (first | refine store_mid rfl _ _ _ rfl w.heap.size 0 (dC d0 mD).toArray rfl rfl HT.out (by kernel_rfl) (by kernel_rfl) ?_ | refine build_at rfl 34 _ rfl (dC d0 mD).toArray (by kernel_rfl) ?_)
        have hc := World.rangeAt_setCells_same w5 w.heap.size 0 (dC d0 mD) HT.out
        have HB3 := hide (below_setCells (dC d0 mD) w.heap.size 0 HB.out (Nat.le_refl _))
        go_wp2_with fail
        refine bodyPost_ret (v := .tuple #[.agg (dC d0 mD).toArray, .int .i64 20]) ?_ ?_ ?_
        · exact results_mid2 (p := 2) (u := 3) rfl _ _ w.heap.size (dC d0 mD) _ rfl hc Tryz.underlying34 rfl (by kernel_rfl)
        · rfl
        · exact rd_ans HB3.out
  · have HU2 := hide (fun w he => HU.out w false he (decide_eq_false h1))
    rw [readE_bad h1]
    clear HU h1
    generalize uns s = u at *
    go_enter Tryz.func12, Tryz.ntmps12
    go_wp2_with fail
    refine (HU2.out _ HE.out).mono ?_
    rintro e w1 ⟨rfl, hb⟩
    replace HB := hide (andthen HB.out hb)
    replace HT := hide (there_below HT.out hb (by simp))
    clear hb
    go_wp2_with (first | refine store_mid rfl _ _ _ rfl w.heap.size 0 (dC d0 mD).toArray rfl rfl HT.out (by kernel_rfl) (by kernel_rfl) ?_ | refine build_at rfl 34 _ rfl (dC d0 mD).toArray (by kernel_rfl) ?_)
    have hc := World.rangeAt_setCells_same w1 w.heap.size 0 (dC d0 mD) HT.out
    have HB3 := hide (below_setCells (dC d0 mD) w.heap.size 0 HB.out (Nat.le_refl _))
    go_wp2_with fail
    refine bodyPost_ret (v := .tuple #[.agg (dC d0 mD).toArray, .int .i64 20]) ?_ ?_ ?_
    · exact results_mid2 (p := 2) (u := 3) rfl _ _ w.heap.size (dC d0 mD) _ rfl hc Tryz.underlying34 rfl (by kernel_rfl)
    · rfl
    · exact rd_ans HB3.out
end Go.Proofs.YtlmdceeeahnkcaaGreatDoor

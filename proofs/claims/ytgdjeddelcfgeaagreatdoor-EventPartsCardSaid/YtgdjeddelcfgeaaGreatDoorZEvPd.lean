/- EventParts walked, the ways 4, 7. -/
import Derived.Test.YtgdjeddelcfgeaaGreatDoorZW15
namespace Go.Proofs.YtgdjeddelcfgeaaGreatDoor
open Go.RowKit Rul Rt Go.Sort

set_option maxRecDepth 100000 in
set_option maxHeartbeats 4000000 in
theorem parts_4 (u t : Tx) (s l : Int) (o : List Int) (fr ev ct un : Int) (ds : List Wd) (ms ys x : List Int) (m : Mem) (y : Int) (w : World) (y1 : 0 ≤ y) (y2 : y ≤ 255) (h : EvL w ⟨u, t, s, l, o, ⟨fr, ev, ct, un, ds, ms, ys⟩, x⟩ m) (he : EnvE w) (hfew : fewEB ds.length ms.length ys.length (str u).size (str t).size o.length x.length = true) (his : Ev.isE ⟨u, t, s, l, o, ⟨fr, ev, ct, un, ds, ms, ys⟩, x⟩ = true) (hq : y % 8 = 4) :
    Calls Tryz.prog 7 #[.agg #[.string (str u), .string (str t), .int .i64 s, .int .i64 l, .slice m.O o.length m.oc, .int .i64 fr, .int .i64 ev, .int .i64 ct, .int .i64 un, .slice m.D ds.length m.dc, .slice m.M ms.length m.mc, .slice m.Y ys.length m.yc, .slice m.X x.length m.xc], .int .u8 y] w (Ans w (.bool true)) := by
  have HE := hide he
  have HFEW := hide hfew
  have HBX := hide (more (start w) (.cells #[.string (str u), .string (str t), .int .i64 s, .int .i64 l, .slice m.O o.length m.oc, .int .i64 fr, .int .i64 ev, .int .i64 ct, .int .i64 un, .slice m.D ds.length m.dc, .slice m.M ms.length m.mc, .slice m.Y ys.length m.yc, .slice m.X x.length m.xc] 27))
  have hk := blk_new w #[.string (str u), .string (str t), .int .i64 s, .int .i64 l, .slice m.O o.length m.oc, .int .i64 fr, .int .i64 ev, .int .i64 ct, .int .i64 un, .slice m.D ds.length m.dc, .slice m.M ms.length m.mc, .slice m.Y ys.length m.yc, .slice m.X x.length m.xc] 27
  have s0 := hk.cell 0 (by simp)
  have s1 := hk.cell 1 (by simp)
  have s2 := hk.cell 2 (by simp)
  have s3 := hk.cell 3 (by simp)
  have s4 := hk.cell 4 (by simp)
  have s5 := hk.cell 5 (by simp)
  have s6 := hk.cell 6 (by simp)
  have s7 := hk.cell 7 (by simp)
  have s8 := hk.cell 8 (by simp)
  have s9 := hk.cell 9 (by simp)
  have s10 := hk.cell 10 (by simp)
  have s11 := hk.cell 11 (by simp)
  have s12 := hk.cell 12 (by simp)
  simp only [List.getElem_cons_zero, List.getElem_cons_succ] at s0 s1 s2 s3 s4 s5 s6 s7 s8 s9 s10 s11 s12
  have HL := hide (h.keep HBX.out)
  have HN1 := hide (Ev.bad_4 ⟨u, t, s, l, o, ⟨fr, ev, ct, un, ds, ms, ys⟩, x⟩)
  have HIS := hide his
  have HX8 := hide hq
  clear h he his hq hfew hk
  go_enter Tryz.func7, Tryz.ntmps7
  go_wp2_with fail
  refine (known_any _ (HE.out.keep HBX.out)).mono ?_
  rintro e w1 ⟨rfl, hb1⟩
  replace HBX := hide (andthen HBX.out hb1)
  replace HL := hide (HL.out.keep hb1)
  replace s0 := cell_keep hb1 s0
  replace s1 := cell_keep hb1 s1
  replace s2 := cell_keep hb1 s2
  replace s3 := cell_keep hb1 s3
  replace s4 := cell_keep hb1 s4
  replace s5 := cell_keep hb1 s5
  replace s6 := cell_keep hb1 s6
  replace s7 := cell_keep hb1 s7
  replace s8 := cell_keep hb1 s8
  replace s9 := cell_keep hb1 s9
  replace s10 := cell_keep hb1 s10
  replace s11 := cell_keep hb1 s11
  replace s12 := cell_keep hb1 s12
  clear hb1
  go_wp2_with fail
  refine (ans_is (fewE_any (str u) (str t) s l m.O o.length m.oc fr ev ct un m.D m.M m.Y m.X ds.length m.dc ms.length m.mc ys.length m.yc x.length m.xc _) HFEW.out).mono ?_
  rintro e w2 ⟨rfl, hb1⟩
  replace HBX := hide (andthen HBX.out hb1)
  replace HL := hide (HL.out.keep hb1)
  replace s0 := cell_keep hb1 s0
  replace s1 := cell_keep hb1 s1
  replace s2 := cell_keep hb1 s2
  replace s3 := cell_keep hb1 s3
  replace s4 := cell_keep hb1 s4
  replace s5 := cell_keep hb1 s5
  replace s6 := cell_keep hb1 s6
  replace s7 := cell_keep hb1 s7
  replace s8 := cell_keep hb1 s8
  replace s9 := cell_keep hb1 s9
  replace s10 := cell_keep hb1 s10
  replace s11 := cell_keep hb1 s11
  replace s12 := cell_keep hb1 s12
  clear hb1
  go_wp2_with fail
  refine (eis_at ⟨u, t, s, l, o, ⟨fr, ev, ct, un, ds, ms, ys⟩, x⟩ m true _ HL.out HIS.out).mono ?_
  rintro e w3 ⟨rfl, hb1⟩
  have HBW := hide (andthen HBX.out hb1)
  replace HL := hide (HL.out.keep hb1)
  replace s0 := cell_keep hb1 s0
  replace s1 := cell_keep hb1 s1
  replace s2 := cell_keep hb1 s2
  replace s3 := cell_keep hb1 s3
  replace s4 := cell_keep hb1 s4
  replace s5 := cell_keep hb1 s5
  replace s6 := cell_keep hb1 s6
  replace s7 := cell_keep hb1 s7
  replace s8 := cell_keep hb1 s8
  replace s9 := cell_keep hb1 s9
  replace s10 := cell_keep hb1 s10
  replace s11 := cell_keep hb1 s11
  replace s12 := cell_keep hb1 s12
  clear hb1 HBX
  have x0 : (y % 8 == 0) = false := by rw [HX8.out]; rfl
  have x1 : (y % 8 == 1) = false := by rw [HX8.out]; rfl
  have x2 : (y % 8 == 2) = false := by rw [HX8.out]; rfl
  have x3 : (y % 8 == 3) = false := by rw [HX8.out]; rfl
  have x4 : (y % 8 == 4) = true := by rw [HX8.out]; rfl
  have x5 : (y % 8 == 5) = false := by rw [HX8.out]; rfl
  have x6 : (y % 8 == 6) = false := by rw [HX8.out]; rfl
  have HQ := hide (blk_new w3 #[.string (str u), .string (str t), .int .i64 s, .int .i64 l, .slice m.O o.length m.oc, .int .i64 fr, .int .i64 ev, .int .i64 ct, .int .i64 un, .slice m.D ds.length m.dc, .slice m.M ms.length m.mc, .slice m.Y ys.length m.yc, .slice m.X x.length m.xc] 27)
  have HB0 := hide (more (start w3) (.cells #[.string (str u), .string (str t), .int .i64 s, .int .i64 l, .slice m.O o.length m.oc, .int .i64 fr, .int .i64 ev, .int .i64 ct, .int .i64 un, .slice m.D ds.length m.dc, .slice m.M ms.length m.mc, .slice m.Y ys.length m.yc, .slice m.X x.length m.xc] 27))
  have hXge : w.heap.size ≤ w3.heap.size := HBW.out.size
  have hXlt : w.heap.size < w3.heap.size := block_lt_of_cell s0
  have HL2 := hide (HL.out.keep HB0.out)
  have t4 := cell_keep HB0.out s4
  have t12 := cell_keep HB0.out s12
  have q0 := HQ.out.cell 0 (by simp)
  have q1 := HQ.out.cell 1 (by simp)
  have q2 := HQ.out.cell 2 (by simp)
  have q3 := HQ.out.cell 3 (by simp)
  have q4 := HQ.out.cell 4 (by simp)
  have q5 := HQ.out.cell 5 (by simp)
  have q6 := HQ.out.cell 6 (by simp)
  have q7 := HQ.out.cell 7 (by simp)
  have q8 := HQ.out.cell 8 (by simp)
  have q9 := HQ.out.cell 9 (by simp)
  have q10 := HQ.out.cell 10 (by simp)
  have q11 := HQ.out.cell 11 (by simp)
  have q12 := HQ.out.cell 12 (by simp)
  simp only [List.getElem_cons_zero, List.getElem_cons_succ] at q0 q1 q2 q3 q4 q5 q6 q7 q8 q9 q10 q11 q12
  have qf4 := HQ.out.free 4
  go_upto_region 6 with (fail)
  generalize w3.alloc (.cells #[.string (str u), .string (str t), .int .i64 s, .int .i64 l, .slice m.O o.length m.oc, .int .i64 fr, .int .i64 ev, .int .i64 ct, .int .i64 un, .slice m.D ds.length m.dc, .slice m.M ms.length m.mc, .slice m.Y ys.length m.yc, .slice m.X x.length m.xc] 27) = W1 at *
  have hBX : w3.heap.size + 1 ≤ W1.heap.size := HQ.out.lt
  have hlen : ([] ++ o ++ [8]).length = (o.length + 1) := by simp
  have HY1 := hide HL2.out.o
  have hol : o.length ≤ 10 := by have := (fewEB_iff _ _ _ _ _ _ _).1 HFEW.out; omega
  have hlen1 : (([] : List Int) ++ o).length = o.length := by simp
  go_wp2_with (first | (at_builtin; refine wp_oneI (l := [] ++ o) (p := 8) rfl _ _ rfl rfl rfl rfl hown1 hB1 (by simp; omega) ?_; intro v2 U2 hown2 hbU2; obtain ⟨A2, cc2, hv2, _⟩ := OwnI.row hown2; rw [hlen] at hv2; subst hv2; have HU := hide (hbU1.trans (hbU2)); have HQ3 := hide (HQ.out.keep2 HU.out (Nat.lt_succ_self _)); have k0 := HQ3.out.cell 0 (by simp); have k1 := HQ3.out.cell 1 (by simp); have k2 := HQ3.out.cell 2 (by simp); have k3 := HQ3.out.cell 3 (by simp); have k4 := HQ3.out.cell 4 (by simp); have k5 := HQ3.out.cell 5 (by simp); have k6 := HQ3.out.cell 6 (by simp); have k7 := HQ3.out.cell 7 (by simp); have k8 := HQ3.out.cell 8 (by simp); have k9 := HQ3.out.cell 9 (by simp); have k10 := HQ3.out.cell 10 (by simp); have k11 := HQ3.out.cell 11 (by simp); have k12 := HQ3.out.cell 12 (by simp); simp only [List.getElem_cons_zero, List.getElem_cons_succ] at k0 k1 k2 k3 k4 k5 k6 k7 k8 k9 k10 k11 k12; have kf := HQ3.out.free 4; have HOW := hide hown2; clear hown2 hbU2 hown1 hbU1) | (at_builtin; refine wp_copyI (k := o) rfl _ _ rfl rfl rfl rfl HY1.out (by omega) ?_; intro v1 U1 hown1' hbU1'; have hown1 : OwnI U1 (w3.heap.size + 1) v1 ([] ++ o) := hown1'.down hBX; have hbU1 : Below (w3.heap.size + 1) W1 U1 := hbU1'.mono hBX; obtain ⟨A1, cc1, hv1, _⟩ := OwnI.row hown1; rw [hlen1] at hv1; subst hv1; have hB1 : w3.heap.size + 1 ≤ U1.heap.size := Nat.le_trans hBX hbU1.size; clear hown1' hbU1'))
  have HQ2 : Hid (BlkAt (U2.setCell ⟨w3.heap.size, 4, none⟩ (.slice A2 (o.length + 1) cc2)) w3.heap.size [.string (str u), .string (str t), .int .i64 s, .int .i64 l, .slice A2 (o.length + 1) cc2, .int .i64 fr, .int .i64 ev, .int .i64 ct, .int .i64 un, .slice m.D ds.length m.dc, .slice m.M ms.length m.mc, .slice m.Y ys.length m.yc, .slice m.X x.length m.xc]) := hide (HQ3.out.set 4 _ (by simp))
  have HB1 := hide (Below.setCell (HB0.out.trans (HU.out.mono (Nat.le_succ w3.heap.size))) (p := ⟨w3.heap.size, 4, none⟩) (Nat.le_refl _) (.slice A2 (o.length + 1) cc2))
  obtain ⟨A3, c3, hv3, hrow3⟩ := OwnI.row (ownsRow_setCell_below HOW.out (a := ⟨w3.heap.size, 4, none⟩) (Nat.lt_succ_self _) (.slice A2 (o.length + 1) cc2))
  rw [hlen] at hv3
  injection hv3 with e1 _ e3
  subst e1 e3
  generalize U2.setCell ⟨w3.heap.size, 4, none⟩ (.slice A2 (o.length + 1) cc2) = Z at *
  clear HOW HQ3 HU k0 k1 k2 k3 k4 k5 k6 k7 k8 k9 k10 k11 k12 kf HB0 HQ HL2 q0 q1 q2 q3 q4 q5 q6 q7 q8 q9 q10 q11 q12 qf4 t4 t12 HY1
  have q0 := HQ2.out.cell 0 (by simp)
  have q1 := HQ2.out.cell 1 (by simp)
  have q2 := HQ2.out.cell 2 (by simp)
  have q3 := HQ2.out.cell 3 (by simp)
  have q4 := HQ2.out.cell 4 (by simp)
  have q5 := HQ2.out.cell 5 (by simp)
  have q6 := HQ2.out.cell 6 (by simp)
  have q7 := HQ2.out.cell 7 (by simp)
  have q8 := HQ2.out.cell 8 (by simp)
  have q9 := HQ2.out.cell 9 (by simp)
  have q10 := HQ2.out.cell 10 (by simp)
  have q11 := HQ2.out.cell 11 (by simp)
  have q12 := HQ2.out.cell 12 (by simp)
  simp only [List.getElem_cons_zero, List.getElem_cons_succ] at q0 q1 q2 q3 q4 q5 q6 q7 q8 q9 q10 q11 q12
  replace HL := hide (HL.out.keep HB1.out)
  have HLQ : Hid (EvL Z ⟨u, t, s, l, [] ++ o ++ [8], ⟨fr, ev, ct, un, ds, ms, ys⟩, x⟩ { m with O := A2, oc := cc2 }) := hide ⟨hrow3, by rw [hlen]; omega, HL.out.r, HL.out.x, HL.out.xl, HL.out.ul, HL.out.tl⟩
  replace s0 := cell_keep HB1.out s0
  replace s1 := cell_keep HB1.out s1
  replace s2 := cell_keep HB1.out s2
  replace s3 := cell_keep HB1.out s3
  replace s4 := cell_keep HB1.out s4
  replace s5 := cell_keep HB1.out s5
  replace s6 := cell_keep HB1.out s6
  replace s7 := cell_keep HB1.out s7
  replace s8 := cell_keep HB1.out s8
  replace s9 := cell_keep HB1.out s9
  replace s10 := cell_keep HB1.out s10
  replace s11 := cell_keep HB1.out s11
  replace s12 := cell_keep HB1.out s12
  have HBX := hide (andthen HBW.out HB1.out)
  clear HB1 HQ2
  have HVV : Hid (evV ⟨u, t, s, l, [] ++ o ++ [8], ⟨fr, ev, ct, un, ds, ms, ys⟩, x⟩ { m with O := A2, oc := cc2 } = .agg #[.string (str u), .string (str t), .int .i64 s, .int .i64 l, .slice A2 (o.length + 1) cc2, .int .i64 fr, .int .i64 ev, .int .i64 ct, .int .i64 un, .slice m.D ds.length m.dc, .slice m.M ms.length m.mc, .slice m.Y ys.length m.yc, .slice m.X x.length m.xc]) := hide (by rw [← hlen])
  refine (eis_v _ ⟨u, t, s, l, [] ++ o ++ [8], ⟨fr, ev, ct, un, ds, ms, ys⟩, x⟩ { m with O := A2, oc := cc2 } false _ HVV.out HLQ.out HN1.out).mono ?_
  rintro e u0 ⟨rfl, hb0⟩
  replace HBX := hide (andthen HBX.out hb0)
  replace HL := hide (HL.out.keep hb0)
  replace HLQ := hide (HLQ.out.keep hb0)
  replace s0 := cell_keep hb0 s0
  replace s1 := cell_keep hb0 s1
  replace s2 := cell_keep hb0 s2
  replace s3 := cell_keep hb0 s3
  replace s4 := cell_keep hb0 s4
  replace s5 := cell_keep hb0 s5
  replace s6 := cell_keep hb0 s6
  replace s7 := cell_keep hb0 s7
  replace s8 := cell_keep hb0 s8
  replace s9 := cell_keep hb0 s9
  replace s10 := cell_keep hb0 s10
  replace s11 := cell_keep hb0 s11
  replace s12 := cell_keep hb0 s12
  replace q0 := cell_keep hb0 q0
  replace q1 := cell_keep hb0 q1
  replace q2 := cell_keep hb0 q2
  replace q3 := cell_keep hb0 q3
  replace q4 := cell_keep hb0 q4
  replace q5 := cell_keep hb0 q5
  replace q6 := cell_keep hb0 q6
  replace q7 := cell_keep hb0 q7
  replace q8 := cell_keep hb0 q8
  replace q9 := cell_keep hb0 q9
  replace q10 := cell_keep hb0 q10
  replace q11 := cell_keep hb0 q11
  replace q12 := cell_keep hb0 q12
  clear hb0
  go_wp2_with fail
  refine (lines_v _ ⟨u, t, s, l, [] ++ o ++ [8], ⟨fr, ev, ct, un, ds, ms, ys⟩, x⟩ { m with O := A2, oc := cc2 } _ HVV.out HLQ.out (HE.out.keep HBX.out) HN1.out).mono ?_
  rintro e u1 ⟨AL, capL, rfl, hb1⟩
  replace HBX := hide (andthen HBX.out hb1)
  replace HL := hide (HL.out.keep hb1)
  replace HLQ := hide (HLQ.out.keep hb1)
  replace s0 := cell_keep hb1 s0
  replace s1 := cell_keep hb1 s1
  replace s2 := cell_keep hb1 s2
  replace s3 := cell_keep hb1 s3
  replace s4 := cell_keep hb1 s4
  replace s5 := cell_keep hb1 s5
  replace s6 := cell_keep hb1 s6
  replace s7 := cell_keep hb1 s7
  replace s8 := cell_keep hb1 s8
  replace s9 := cell_keep hb1 s9
  replace s10 := cell_keep hb1 s10
  replace s11 := cell_keep hb1 s11
  replace s12 := cell_keep hb1 s12
  replace q0 := cell_keep hb1 q0
  replace q1 := cell_keep hb1 q1
  replace q2 := cell_keep hb1 q2
  replace q3 := cell_keep hb1 q3
  replace q4 := cell_keep hb1 q4
  replace q5 := cell_keep hb1 q5
  replace q6 := cell_keep hb1 q6
  replace q7 := cell_keep hb1 q7
  replace q8 := cell_keep hb1 q8
  replace q9 := cell_keep hb1 q9
  replace q10 := cell_keep hb1 q10
  replace q11 := cell_keep hb1 q11
  replace q12 := cell_keep hb1 q12
  clear hb1
  go_wp2_with fail
  refine (esame_v _ _ ⟨u, t, s, l, o, ⟨fr, ev, ct, un, ds, ms, ys⟩, x⟩ ⟨u, t, s, l, [] ++ o ++ [8], ⟨fr, ev, ct, un, ds, ms, ys⟩, x⟩ m { m with O := A2, oc := cc2 } false _ rfl HVV.out HL.out HLQ.out (Ev.same_no HIS.out HN1.out)).mono ?_
  rintro e u2 ⟨rfl, hb2⟩
  replace HBX := hide (andthen HBX.out hb2)
  replace HL := hide (HL.out.keep hb2)
  replace HLQ := hide (HLQ.out.keep hb2)
  replace s0 := cell_keep hb2 s0
  replace s1 := cell_keep hb2 s1
  replace s2 := cell_keep hb2 s2
  replace s3 := cell_keep hb2 s3
  replace s4 := cell_keep hb2 s4
  replace s5 := cell_keep hb2 s5
  replace s6 := cell_keep hb2 s6
  replace s7 := cell_keep hb2 s7
  replace s8 := cell_keep hb2 s8
  replace s9 := cell_keep hb2 s9
  replace s10 := cell_keep hb2 s10
  replace s11 := cell_keep hb2 s11
  replace s12 := cell_keep hb2 s12
  replace q0 := cell_keep hb2 q0
  replace q1 := cell_keep hb2 q1
  replace q2 := cell_keep hb2 q2
  replace q3 := cell_keep hb2 q3
  replace q4 := cell_keep hb2 q4
  replace q5 := cell_keep hb2 q5
  replace q6 := cell_keep hb2 q6
  replace q7 := cell_keep hb2 q7
  replace q8 := cell_keep hb2 q8
  replace q9 := cell_keep hb2 q9
  replace q10 := cell_keep hb2 q10
  replace q11 := cell_keep hb2 q11
  replace q12 := cell_keep hb2 q12
  clear hb2
  go_wp2_with fail
  go_ret
  exact ⟨rfl, HBX.out⟩
set_option maxRecDepth 100000 in
set_option maxHeartbeats 4000000 in
theorem parts_7 (u t : Tx) (s l : Int) (o : List Int) (fr ev ct un : Int) (ds : List Wd) (ms ys x : List Int) (m : Mem) (y : Int) (w : World) (y1 : 0 ≤ y) (y2 : y ≤ 255) (h : EvL w ⟨u, t, s, l, o, ⟨fr, ev, ct, un, ds, ms, ys⟩, x⟩ m) (he : EnvE w) (hz : m.X = none → m.xc = 0) (hfew : fewEB ds.length ms.length ys.length (str u).size (str t).size o.length x.length = true) (his : Ev.isE ⟨u, t, s, l, o, ⟨fr, ev, ct, un, ds, ms, ys⟩, x⟩ = true) (hq : y % 8 = 7) :
    Calls Tryz.prog 7 #[.agg #[.string (str u), .string (str t), .int .i64 s, .int .i64 l, .slice m.O o.length m.oc, .int .i64 fr, .int .i64 ev, .int .i64 ct, .int .i64 un, .slice m.D ds.length m.dc, .slice m.M ms.length m.mc, .slice m.Y ys.length m.yc, .slice m.X x.length m.xc], .int .u8 y] w (Ans w (.bool true)) := by
  have HE := hide he
  have HFEW := hide hfew
  have HBX := hide (more (start w) (.cells #[.string (str u), .string (str t), .int .i64 s, .int .i64 l, .slice m.O o.length m.oc, .int .i64 fr, .int .i64 ev, .int .i64 ct, .int .i64 un, .slice m.D ds.length m.dc, .slice m.M ms.length m.mc, .slice m.Y ys.length m.yc, .slice m.X x.length m.xc] 27))
  have hk := blk_new w #[.string (str u), .string (str t), .int .i64 s, .int .i64 l, .slice m.O o.length m.oc, .int .i64 fr, .int .i64 ev, .int .i64 ct, .int .i64 un, .slice m.D ds.length m.dc, .slice m.M ms.length m.mc, .slice m.Y ys.length m.yc, .slice m.X x.length m.xc] 27
  have s0 := hk.cell 0 (by simp)
  have s1 := hk.cell 1 (by simp)
  have s2 := hk.cell 2 (by simp)
  have s3 := hk.cell 3 (by simp)
  have s4 := hk.cell 4 (by simp)
  have s5 := hk.cell 5 (by simp)
  have s6 := hk.cell 6 (by simp)
  have s7 := hk.cell 7 (by simp)
  have s8 := hk.cell 8 (by simp)
  have s9 := hk.cell 9 (by simp)
  have s10 := hk.cell 10 (by simp)
  have s11 := hk.cell 11 (by simp)
  have s12 := hk.cell 12 (by simp)
  simp only [List.getElem_cons_zero, List.getElem_cons_succ] at s0 s1 s2 s3 s4 s5 s6 s7 s8 s9 s10 s11 s12
  have HL := hide (h.keep HBX.out)
  have HN1 := hide (Ev.bad_7 ⟨u, t, s, l, o, ⟨fr, ev, ct, un, ds, ms, ys⟩, x⟩)
  have HIS := hide his
  have HX8 := hide hq
  clear h he his hq hfew hk
  go_enter Tryz.func7, Tryz.ntmps7
  go_wp2_with fail
  refine (known_any _ (HE.out.keep HBX.out)).mono ?_
  rintro e w1 ⟨rfl, hb1⟩
  replace HBX := hide (andthen HBX.out hb1)
  replace HL := hide (HL.out.keep hb1)
  replace s0 := cell_keep hb1 s0
  replace s1 := cell_keep hb1 s1
  replace s2 := cell_keep hb1 s2
  replace s3 := cell_keep hb1 s3
  replace s4 := cell_keep hb1 s4
  replace s5 := cell_keep hb1 s5
  replace s6 := cell_keep hb1 s6
  replace s7 := cell_keep hb1 s7
  replace s8 := cell_keep hb1 s8
  replace s9 := cell_keep hb1 s9
  replace s10 := cell_keep hb1 s10
  replace s11 := cell_keep hb1 s11
  replace s12 := cell_keep hb1 s12
  clear hb1
  go_wp2_with fail
  refine (ans_is (fewE_any (str u) (str t) s l m.O o.length m.oc fr ev ct un m.D m.M m.Y m.X ds.length m.dc ms.length m.mc ys.length m.yc x.length m.xc _) HFEW.out).mono ?_
  rintro e w2 ⟨rfl, hb1⟩
  replace HBX := hide (andthen HBX.out hb1)
  replace HL := hide (HL.out.keep hb1)
  replace s0 := cell_keep hb1 s0
  replace s1 := cell_keep hb1 s1
  replace s2 := cell_keep hb1 s2
  replace s3 := cell_keep hb1 s3
  replace s4 := cell_keep hb1 s4
  replace s5 := cell_keep hb1 s5
  replace s6 := cell_keep hb1 s6
  replace s7 := cell_keep hb1 s7
  replace s8 := cell_keep hb1 s8
  replace s9 := cell_keep hb1 s9
  replace s10 := cell_keep hb1 s10
  replace s11 := cell_keep hb1 s11
  replace s12 := cell_keep hb1 s12
  clear hb1
  go_wp2_with fail
  refine (eis_at ⟨u, t, s, l, o, ⟨fr, ev, ct, un, ds, ms, ys⟩, x⟩ m true _ HL.out HIS.out).mono ?_
  rintro e w3 ⟨rfl, hb1⟩
  have HBW := hide (andthen HBX.out hb1)
  replace HL := hide (HL.out.keep hb1)
  replace s0 := cell_keep hb1 s0
  replace s1 := cell_keep hb1 s1
  replace s2 := cell_keep hb1 s2
  replace s3 := cell_keep hb1 s3
  replace s4 := cell_keep hb1 s4
  replace s5 := cell_keep hb1 s5
  replace s6 := cell_keep hb1 s6
  replace s7 := cell_keep hb1 s7
  replace s8 := cell_keep hb1 s8
  replace s9 := cell_keep hb1 s9
  replace s10 := cell_keep hb1 s10
  replace s11 := cell_keep hb1 s11
  replace s12 := cell_keep hb1 s12
  clear hb1 HBX
  have x0 : (y % 8 == 0) = false := by rw [HX8.out]; rfl
  have x1 : (y % 8 == 1) = false := by rw [HX8.out]; rfl
  have x2 : (y % 8 == 2) = false := by rw [HX8.out]; rfl
  have x3 : (y % 8 == 3) = false := by rw [HX8.out]; rfl
  have x4 : (y % 8 == 4) = false := by rw [HX8.out]; rfl
  have x5 : (y % 8 == 5) = false := by rw [HX8.out]; rfl
  have x6 : (y % 8 == 6) = false := by rw [HX8.out]; rfl
  have HQ := hide (blk_new w3 #[.string (str u), .string (str t), .int .i64 s, .int .i64 l, .slice m.O o.length m.oc, .int .i64 fr, .int .i64 ev, .int .i64 ct, .int .i64 un, .slice m.D ds.length m.dc, .slice m.M ms.length m.mc, .slice m.Y ys.length m.yc, .slice m.X x.length m.xc] 27)
  have HB0 := hide (more (start w3) (.cells #[.string (str u), .string (str t), .int .i64 s, .int .i64 l, .slice m.O o.length m.oc, .int .i64 fr, .int .i64 ev, .int .i64 ct, .int .i64 un, .slice m.D ds.length m.dc, .slice m.M ms.length m.mc, .slice m.Y ys.length m.yc, .slice m.X x.length m.xc] 27))
  have hXge : w.heap.size ≤ w3.heap.size := HBW.out.size
  have hXlt : w.heap.size < w3.heap.size := block_lt_of_cell s0
  have HL2 := hide (HL.out.keep HB0.out)
  have t4 := cell_keep HB0.out s4
  have t12 := cell_keep HB0.out s12
  have q0 := HQ.out.cell 0 (by simp)
  have q1 := HQ.out.cell 1 (by simp)
  have q2 := HQ.out.cell 2 (by simp)
  have q3 := HQ.out.cell 3 (by simp)
  have q4 := HQ.out.cell 4 (by simp)
  have q5 := HQ.out.cell 5 (by simp)
  have q6 := HQ.out.cell 6 (by simp)
  have q7 := HQ.out.cell 7 (by simp)
  have q8 := HQ.out.cell 8 (by simp)
  have q9 := HQ.out.cell 9 (by simp)
  have q10 := HQ.out.cell 10 (by simp)
  have q11 := HQ.out.cell 11 (by simp)
  have q12 := HQ.out.cell 12 (by simp)
  simp only [List.getElem_cons_zero, List.getElem_cons_succ] at q0 q1 q2 q3 q4 q5 q6 q7 q8 q9 q10 q11 q12
  have qf12 := HQ.out.free 12
  go_upto_region 6 with (fail)
  generalize w3.alloc (.cells #[.string (str u), .string (str t), .int .i64 s, .int .i64 l, .slice m.O o.length m.oc, .int .i64 fr, .int .i64 ev, .int .i64 ct, .int .i64 un, .slice m.D ds.length m.dc, .slice m.M ms.length m.mc, .slice m.Y ys.length m.yc, .slice m.X x.length m.xc] 27) = W1 at *
  have hBX : w3.heap.size + 1 ≤ W1.heap.size := HQ.out.lt
  have hlen : ([-1] ++ x).length = (x.length + 1) := by simp
  have hWlt : w.heap.size < W1.heap.size := block_lt_of_cell t12
  have hxl : x.length ≤ 20 := by have := (fewEB_iff _ _ _ _ _ _ _).1 HFEW.out; omega
  have HY1 := hide (RowI.keep HL2.out.x (more (start W1) (.cells #[.int .i64 (-1)] 3)))
  have hlit : OwnI (W1.alloc (.cells #[.int .i64 (-1)] 3)) (w3.heap.size + 1) (.slice (some ⟨W1.heap.size, 0, none⟩) 1 1) [-1] := World.ownsRow_lit W1 #[.int .i64 (-1)] 1 hBX (by unfold maxLen; omega) rfl
  have hBA : w3.heap.size + 1 ≤ (W1.alloc (.cells #[.int .i64 (-1)] 3)).heap.size := by simp only [World.size_alloc]; omega
  go_wp2_with (first | (at_builtin; refine wp_rowI (l := [-1]) (k := x) rfl _ _ rfl rfl rfl rfl hz HY1.out hlit hBA (by simp) (by omega) ?_; intro v2 U2 hown2 hbU2; obtain ⟨A2, cc2, hv2, _⟩ := OwnI.row hown2; rw [hlen] at hv2; subst hv2; have HU := hide (((Below.refl (w3.heap.size + 1) W1).alloc hBX _).trans hbU2); have HQ3 := hide (HQ.out.keep2 HU.out (Nat.lt_succ_self _)); have k0 := HQ3.out.cell 0 (by simp); have k1 := HQ3.out.cell 1 (by simp); have k2 := HQ3.out.cell 2 (by simp); have k3 := HQ3.out.cell 3 (by simp); have k4 := HQ3.out.cell 4 (by simp); have k5 := HQ3.out.cell 5 (by simp); have k6 := HQ3.out.cell 6 (by simp); have k7 := HQ3.out.cell 7 (by simp); have k8 := HQ3.out.cell 8 (by simp); have k9 := HQ3.out.cell 9 (by simp); have k10 := HQ3.out.cell 10 (by simp); have k11 := HQ3.out.cell 11 (by simp); have k12 := HQ3.out.cell 12 (by simp); simp only [List.getElem_cons_zero, List.getElem_cons_succ] at k0 k1 k2 k3 k4 k5 k6 k7 k8 k9 k10 k11 k12; have kf := HQ3.out.free 12; have HOW := hide hown2; clear hown2 hbU2))
  have HQ2 : Hid (BlkAt (U2.setCell ⟨w3.heap.size, 12, none⟩ (.slice A2 (x.length + 1) cc2)) w3.heap.size [.string (str u), .string (str t), .int .i64 s, .int .i64 l, .slice m.O o.length m.oc, .int .i64 fr, .int .i64 ev, .int .i64 ct, .int .i64 un, .slice m.D ds.length m.dc, .slice m.M ms.length m.mc, .slice m.Y ys.length m.yc, .slice A2 (x.length + 1) cc2]) := hide (HQ3.out.set 12 _ (by simp))
  have HB1 := hide (Below.setCell (HB0.out.trans (HU.out.mono (Nat.le_succ w3.heap.size))) (p := ⟨w3.heap.size, 12, none⟩) (Nat.le_refl _) (.slice A2 (x.length + 1) cc2))
  obtain ⟨A3, c3, hv3, hrow3⟩ := OwnI.row (ownsRow_setCell_below HOW.out (a := ⟨w3.heap.size, 12, none⟩) (Nat.lt_succ_self _) (.slice A2 (x.length + 1) cc2))
  rw [hlen] at hv3
  injection hv3 with e1 _ e3
  subst e1 e3
  generalize U2.setCell ⟨w3.heap.size, 12, none⟩ (.slice A2 (x.length + 1) cc2) = Z at *
  clear HOW HQ3 HU k0 k1 k2 k3 k4 k5 k6 k7 k8 k9 k10 k11 k12 kf HB0 HQ HL2 q0 q1 q2 q3 q4 q5 q6 q7 q8 q9 q10 q11 q12 qf12 t4 t12 HY1
  have q0 := HQ2.out.cell 0 (by simp)
  have q1 := HQ2.out.cell 1 (by simp)
  have q2 := HQ2.out.cell 2 (by simp)
  have q3 := HQ2.out.cell 3 (by simp)
  have q4 := HQ2.out.cell 4 (by simp)
  have q5 := HQ2.out.cell 5 (by simp)
  have q6 := HQ2.out.cell 6 (by simp)
  have q7 := HQ2.out.cell 7 (by simp)
  have q8 := HQ2.out.cell 8 (by simp)
  have q9 := HQ2.out.cell 9 (by simp)
  have q10 := HQ2.out.cell 10 (by simp)
  have q11 := HQ2.out.cell 11 (by simp)
  have q12 := HQ2.out.cell 12 (by simp)
  simp only [List.getElem_cons_zero, List.getElem_cons_succ] at q0 q1 q2 q3 q4 q5 q6 q7 q8 q9 q10 q11 q12
  replace HL := hide (HL.out.keep HB1.out)
  have HLQ : Hid (EvL Z ⟨u, t, s, l, o, ⟨fr, ev, ct, un, ds, ms, ys⟩, [-1] ++ x⟩ { m with X := A2, xc := cc2 }) := hide ⟨HL.out.o, HL.out.ol, HL.out.r, hrow3, by rw [hlen]; omega, HL.out.ul, HL.out.tl⟩
  replace s0 := cell_keep HB1.out s0
  replace s1 := cell_keep HB1.out s1
  replace s2 := cell_keep HB1.out s2
  replace s3 := cell_keep HB1.out s3
  replace s4 := cell_keep HB1.out s4
  replace s5 := cell_keep HB1.out s5
  replace s6 := cell_keep HB1.out s6
  replace s7 := cell_keep HB1.out s7
  replace s8 := cell_keep HB1.out s8
  replace s9 := cell_keep HB1.out s9
  replace s10 := cell_keep HB1.out s10
  replace s11 := cell_keep HB1.out s11
  replace s12 := cell_keep HB1.out s12
  have HBX := hide (andthen HBW.out HB1.out)
  clear HB1 HQ2
  have HVV : Hid (evV ⟨u, t, s, l, o, ⟨fr, ev, ct, un, ds, ms, ys⟩, [-1] ++ x⟩ { m with X := A2, xc := cc2 } = .agg #[.string (str u), .string (str t), .int .i64 s, .int .i64 l, .slice m.O o.length m.oc, .int .i64 fr, .int .i64 ev, .int .i64 ct, .int .i64 un, .slice m.D ds.length m.dc, .slice m.M ms.length m.mc, .slice m.Y ys.length m.yc, .slice A2 (x.length + 1) cc2]) := hide (by rw [← hlen])
  refine (eis_v _ ⟨u, t, s, l, o, ⟨fr, ev, ct, un, ds, ms, ys⟩, [-1] ++ x⟩ { m with X := A2, xc := cc2 } false _ HVV.out HLQ.out HN1.out).mono ?_
  rintro e u0 ⟨rfl, hb0⟩
  replace HBX := hide (andthen HBX.out hb0)
  replace HL := hide (HL.out.keep hb0)
  replace HLQ := hide (HLQ.out.keep hb0)
  replace s0 := cell_keep hb0 s0
  replace s1 := cell_keep hb0 s1
  replace s2 := cell_keep hb0 s2
  replace s3 := cell_keep hb0 s3
  replace s4 := cell_keep hb0 s4
  replace s5 := cell_keep hb0 s5
  replace s6 := cell_keep hb0 s6
  replace s7 := cell_keep hb0 s7
  replace s8 := cell_keep hb0 s8
  replace s9 := cell_keep hb0 s9
  replace s10 := cell_keep hb0 s10
  replace s11 := cell_keep hb0 s11
  replace s12 := cell_keep hb0 s12
  replace q0 := cell_keep hb0 q0
  replace q1 := cell_keep hb0 q1
  replace q2 := cell_keep hb0 q2
  replace q3 := cell_keep hb0 q3
  replace q4 := cell_keep hb0 q4
  replace q5 := cell_keep hb0 q5
  replace q6 := cell_keep hb0 q6
  replace q7 := cell_keep hb0 q7
  replace q8 := cell_keep hb0 q8
  replace q9 := cell_keep hb0 q9
  replace q10 := cell_keep hb0 q10
  replace q11 := cell_keep hb0 q11
  replace q12 := cell_keep hb0 q12
  clear hb0
  go_wp2_with fail
  refine (lines_v _ ⟨u, t, s, l, o, ⟨fr, ev, ct, un, ds, ms, ys⟩, [-1] ++ x⟩ { m with X := A2, xc := cc2 } _ HVV.out HLQ.out (HE.out.keep HBX.out) HN1.out).mono ?_
  rintro e u1 ⟨AL, capL, rfl, hb1⟩
  replace HBX := hide (andthen HBX.out hb1)
  replace HL := hide (HL.out.keep hb1)
  replace HLQ := hide (HLQ.out.keep hb1)
  replace s0 := cell_keep hb1 s0
  replace s1 := cell_keep hb1 s1
  replace s2 := cell_keep hb1 s2
  replace s3 := cell_keep hb1 s3
  replace s4 := cell_keep hb1 s4
  replace s5 := cell_keep hb1 s5
  replace s6 := cell_keep hb1 s6
  replace s7 := cell_keep hb1 s7
  replace s8 := cell_keep hb1 s8
  replace s9 := cell_keep hb1 s9
  replace s10 := cell_keep hb1 s10
  replace s11 := cell_keep hb1 s11
  replace s12 := cell_keep hb1 s12
  replace q0 := cell_keep hb1 q0
  replace q1 := cell_keep hb1 q1
  replace q2 := cell_keep hb1 q2
  replace q3 := cell_keep hb1 q3
  replace q4 := cell_keep hb1 q4
  replace q5 := cell_keep hb1 q5
  replace q6 := cell_keep hb1 q6
  replace q7 := cell_keep hb1 q7
  replace q8 := cell_keep hb1 q8
  replace q9 := cell_keep hb1 q9
  replace q10 := cell_keep hb1 q10
  replace q11 := cell_keep hb1 q11
  replace q12 := cell_keep hb1 q12
  clear hb1
  go_wp2_with fail
  refine (esame_v _ _ ⟨u, t, s, l, o, ⟨fr, ev, ct, un, ds, ms, ys⟩, x⟩ ⟨u, t, s, l, o, ⟨fr, ev, ct, un, ds, ms, ys⟩, [-1] ++ x⟩ m { m with X := A2, xc := cc2 } false _ rfl HVV.out HL.out HLQ.out (Ev.same_no HIS.out HN1.out)).mono ?_
  rintro e u2 ⟨rfl, hb2⟩
  replace HBX := hide (andthen HBX.out hb2)
  replace HL := hide (HL.out.keep hb2)
  replace HLQ := hide (HLQ.out.keep hb2)
  replace s0 := cell_keep hb2 s0
  replace s1 := cell_keep hb2 s1
  replace s2 := cell_keep hb2 s2
  replace s3 := cell_keep hb2 s3
  replace s4 := cell_keep hb2 s4
  replace s5 := cell_keep hb2 s5
  replace s6 := cell_keep hb2 s6
  replace s7 := cell_keep hb2 s7
  replace s8 := cell_keep hb2 s8
  replace s9 := cell_keep hb2 s9
  replace s10 := cell_keep hb2 s10
  replace s11 := cell_keep hb2 s11
  replace s12 := cell_keep hb2 s12
  replace q0 := cell_keep hb2 q0
  replace q1 := cell_keep hb2 q1
  replace q2 := cell_keep hb2 q2
  replace q3 := cell_keep hb2 q3
  replace q4 := cell_keep hb2 q4
  replace q5 := cell_keep hb2 q5
  replace q6 := cell_keep hb2 q6
  replace q7 := cell_keep hb2 q7
  replace q8 := cell_keep hb2 q8
  replace q9 := cell_keep hb2 q9
  replace q10 := cell_keep hb2 q10
  replace q11 := cell_keep hb2 q11
  replace q12 := cell_keep hb2 q12
  clear hb2
  go_wp2_with fail
  go_ret
  exact ⟨rfl, HBX.out⟩

end Go.Proofs.YtgdjeddelcfgeaaGreatDoor

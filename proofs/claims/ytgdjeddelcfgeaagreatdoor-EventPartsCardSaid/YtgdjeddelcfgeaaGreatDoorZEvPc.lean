/- EventParts walked, the ways 3, 5, 6. -/
import Derived.Test.YtgdjeddelcfgeaaGreatDoorZW15
namespace Go.Proofs.YtgdjeddelcfgeaaGreatDoor
open Go.RowKit Rul Rt Go.Sort

set_option maxRecDepth 100000 in
set_option maxHeartbeats 4000000 in
theorem parts_3 (u t : Tx) (s l : Int) (o : List Int) (fr ev ct un : Int) (ds : List Wd) (ms ys x : List Int) (m : Mem) (y : Int) (w : World) (y1 : 0 ≤ y) (y2 : y ≤ 255) (h : EvL w ⟨u, t, s, l, o, ⟨fr, ev, ct, un, ds, ms, ys⟩, x⟩ m) (he : EnvE w) (hfew : fewEB ds.length ms.length ys.length (str u).size (str t).size o.length x.length = true) (his : Ev.isE ⟨u, t, s, l, o, ⟨fr, ev, ct, un, ds, ms, ys⟩, x⟩ = true) (hq : y % 8 = 3) :
    Calls Tryz.prog 7 #[.agg #[.string (str u), .string (str t), .int .i64 s, .int .i64 l, .slice m.O o.length m.oc, .int .i64 fr, .int .i64 ev, .int .i64 ct, .int .i64 un, .slice m.D ds.length m.dc, .slice m.M ms.length m.mc, .slice m.Y ys.length m.yc, .slice m.X x.length m.xc], .int .u8 y] w (Ans w (.bool true)) := by
  have HE := hide he
  have HFEW := hide hfew
  have HBX := hide (more (start w) (.cells #[.string (str u), .string (str t), .int .i64 s, .int .i64 l, .slice m.O o.length m.oc, .int .i64 fr, .int .i64 ev, .int .i64 ct, .int .i64 un, .slice m.D ds.length m.dc, .slice m.M ms.length m.mc, .slice m.Y ys.length m.yc, .slice m.X x.length m.xc] 27))
  have hk := blk_new w #[.string (str u), .string (str t), .int .i64 s, .int .i64 l, .slice m.O o.length m.oc, .int .i64 fr, .int .i64 ev, .int .i64 ct, .int .i64 un, .slice m.D ds.length m.dc, .slice m.M ms.length m.mc, .slice m.Y ys.length m.yc, .slice m.X x.length m.xc] 27
  have s0 := hk.cell 0 (by simp)
  have s1 := hk.cell 1 (by simp)
  have s2 := hk.cell 2 (by simp)
  have s3 := hk.cell 3 (by simp)
  have s4 := hk.cell 4 (by simp)
  have s5 := hk.cell 5 (by simp)
  have s6 := hk.cell 6 (by simp)
  have s7 := hk.cell 7 (by simp)
  have s8 := hk.cell 8 (by simp)
  have s9 := hk.cell 9 (by simp)
  have s10 := hk.cell 10 (by simp)
  have s11 := hk.cell 11 (by simp)
  have s12 := hk.cell 12 (by simp)
  simp only [List.getElem_cons_zero, List.getElem_cons_succ] at s0 s1 s2 s3 s4 s5 s6 s7 s8 s9 s10 s11 s12
  have HL := hide (h.keep HBX.out)
  have HN1 := hide (Ev.bad_3 ⟨u, t, s, l, o, ⟨fr, ev, ct, un, ds, ms, ys⟩, x⟩)
  have HIS := hide his
  have HX8 := hide hq
  clear h he his hq hfew hk
  go_enter Tryz.func7, Tryz.ntmps7
  go_wp2_with fail
  refine (known_any _ (HE.out.keep HBX.out)).mono ?_
  rintro e w1 ⟨rfl, hb1⟩
  replace HBX := hide (andthen HBX.out hb1)
  replace HL := hide (HL.out.keep hb1)
  replace s0 := cell_keep hb1 s0
  replace s1 := cell_keep hb1 s1
  replace s2 := cell_keep hb1 s2
  replace s3 := cell_keep hb1 s3
  replace s4 := cell_keep hb1 s4
  replace s5 := cell_keep hb1 s5
  replace s6 := cell_keep hb1 s6
  replace s7 := cell_keep hb1 s7
  replace s8 := cell_keep hb1 s8
  replace s9 := cell_keep hb1 s9
  replace s10 := cell_keep hb1 s10
  replace s11 := cell_keep hb1 s11
  replace s12 := cell_keep hb1 s12
  clear hb1
  go_wp2_with fail
  refine (ans_is (fewE_any (str u) (str t) s l m.O o.length m.oc fr ev ct un m.D m.M m.Y m.X ds.length m.dc ms.length m.mc ys.length m.yc x.length m.xc _) HFEW.out).mono ?_
  rintro e w2 ⟨rfl, hb1⟩
  replace HBX := hide (andthen HBX.out hb1)
  replace HL := hide (HL.out.keep hb1)
  replace s0 := cell_keep hb1 s0
  replace s1 := cell_keep hb1 s1
  replace s2 := cell_keep hb1 s2
  replace s3 := cell_keep hb1 s3
  replace s4 := cell_keep hb1 s4
  replace s5 := cell_keep hb1 s5
  replace s6 := cell_keep hb1 s6
  replace s7 := cell_keep hb1 s7
  replace s8 := cell_keep hb1 s8
  replace s9 := cell_keep hb1 s9
  replace s10 := cell_keep hb1 s10
  replace s11 := cell_keep hb1 s11
  replace s12 := cell_keep hb1 s12
  clear hb1
  go_wp2_with fail
  refine (eis_at ⟨u, t, s, l, o, ⟨fr, ev, ct, un, ds, ms, ys⟩, x⟩ m true _ HL.out HIS.out).mono ?_
  rintro e w3 ⟨rfl, hb1⟩
  have HBW := hide (andthen HBX.out hb1)
  replace HL := hide (HL.out.keep hb1)
  replace s0 := cell_keep hb1 s0
  replace s1 := cell_keep hb1 s1
  replace s2 := cell_keep hb1 s2
  replace s3 := cell_keep hb1 s3
  replace s4 := cell_keep hb1 s4
  replace s5 := cell_keep hb1 s5
  replace s6 := cell_keep hb1 s6
  replace s7 := cell_keep hb1 s7
  replace s8 := cell_keep hb1 s8
  replace s9 := cell_keep hb1 s9
  replace s10 := cell_keep hb1 s10
  replace s11 := cell_keep hb1 s11
  replace s12 := cell_keep hb1 s12
  clear hb1 HBX
  have x0 : (y % 8 == 0) = false := by rw [HX8.out]; rfl
  have x1 : (y % 8 == 1) = false := by rw [HX8.out]; rfl
  have x2 : (y % 8 == 2) = false := by rw [HX8.out]; rfl
  have x3 : (y % 8 == 3) = true := by rw [HX8.out]; rfl
  have x4 : (y % 8 == 4) = false := by rw [HX8.out]; rfl
  have x5 : (y % 8 == 5) = false := by rw [HX8.out]; rfl
  have x6 : (y % 8 == 6) = false := by rw [HX8.out]; rfl
  have HQ := hide (blk_new w3 #[.string (str u), .string (str t), .int .i64 s, .int .i64 l, .slice m.O o.length m.oc, .int .i64 fr, .int .i64 ev, .int .i64 ct, .int .i64 un, .slice m.D ds.length m.dc, .slice m.M ms.length m.mc, .slice m.Y ys.length m.yc, .slice m.X x.length m.xc] 27)
  have HB0 := hide (more (start w3) (.cells #[.string (str u), .string (str t), .int .i64 s, .int .i64 l, .slice m.O o.length m.oc, .int .i64 fr, .int .i64 ev, .int .i64 ct, .int .i64 un, .slice m.D ds.length m.dc, .slice m.M ms.length m.mc, .slice m.Y ys.length m.yc, .slice m.X x.length m.xc] 27))
  have hXge : w.heap.size ≤ w3.heap.size := HBW.out.size
  have hXlt : w.heap.size < w3.heap.size := block_lt_of_cell s0
  have HL2 := hide (HL.out.keep HB0.out)
  have t4 := cell_keep HB0.out s4
  have t12 := cell_keep HB0.out s12
  have q0 := HQ.out.cell 0 (by simp)
  have q1 := HQ.out.cell 1 (by simp)
  have q2 := HQ.out.cell 2 (by simp)
  have q3 := HQ.out.cell 3 (by simp)
  have q4 := HQ.out.cell 4 (by simp)
  have q5 := HQ.out.cell 5 (by simp)
  have q6 := HQ.out.cell 6 (by simp)
  have q7 := HQ.out.cell 7 (by simp)
  have q8 := HQ.out.cell 8 (by simp)
  have q9 := HQ.out.cell 9 (by simp)
  have q10 := HQ.out.cell 10 (by simp)
  have q11 := HQ.out.cell 11 (by simp)
  have q12 := HQ.out.cell 12 (by simp)
  simp only [List.getElem_cons_zero, List.getElem_cons_succ] at q0 q1 q2 q3 q4 q5 q6 q7 q8 q9 q10 q11 q12
  have qf3 := HQ.out.free 3
  go_upto_region 6 with (fail)
  generalize w3.alloc (.cells #[.string (str u), .string (str t), .int .i64 s, .int .i64 l, .slice m.O o.length m.oc, .int .i64 fr, .int .i64 ev, .int .i64 ct, .int .i64 un, .slice m.D ds.length m.dc, .slice m.M ms.length m.mc, .slice m.Y ys.length m.yc, .slice m.X x.length m.xc] 27) = W1 at *
  go_wp2_with fail
  have HQ2 : Hid (BlkAt (W1.setCell ⟨w3.heap.size, 3, none⟩ (.int .i64 10081)) w3.heap.size [.string (str u), .string (str t), .int .i64 s, .int .i64 10081, .slice m.O o.length m.oc, .int .i64 fr, .int .i64 ev, .int .i64 ct, .int .i64 un, .slice m.D ds.length m.dc, .slice m.M ms.length m.mc, .slice m.Y ys.length m.yc, .slice m.X x.length m.xc]) := hide ((HQ.out).set 3 (.int .i64 10081) (by simp))
  have HB1 := hide (Below.setCell HB0.out (p := ⟨w3.heap.size, 3, none⟩) (Nat.le_refl _) (.int .i64 10081))
  clear HQ HB0 HL2 q0 q1 q2 q3 q4 q5 q6 q7 q8 q9 q10 q11 q12 qf3 t4 t12
  generalize (W1.setCell ⟨w3.heap.size, 3, none⟩ (.int .i64 10081)) = Z at *
  have q0 := HQ2.out.cell 0 (by simp)
  have q1 := HQ2.out.cell 1 (by simp)
  have q2 := HQ2.out.cell 2 (by simp)
  have q3 := HQ2.out.cell 3 (by simp)
  have q4 := HQ2.out.cell 4 (by simp)
  have q5 := HQ2.out.cell 5 (by simp)
  have q6 := HQ2.out.cell 6 (by simp)
  have q7 := HQ2.out.cell 7 (by simp)
  have q8 := HQ2.out.cell 8 (by simp)
  have q9 := HQ2.out.cell 9 (by simp)
  have q10 := HQ2.out.cell 10 (by simp)
  have q11 := HQ2.out.cell 11 (by simp)
  have q12 := HQ2.out.cell 12 (by simp)
  simp only [List.getElem_cons_zero, List.getElem_cons_succ] at q0 q1 q2 q3 q4 q5 q6 q7 q8 q9 q10 q11 q12
  replace HL := hide (HL.out.keep HB1.out)
  have HLQ : Hid (EvL Z ⟨u, t, s, 10081, o, ⟨fr, ev, ct, un, ds, ms, ys⟩, x⟩ m) := hide ⟨HL.out.o, HL.out.ol, HL.out.r, HL.out.x, HL.out.xl, HL.out.ul, HL.out.tl⟩
  replace s0 := cell_keep HB1.out s0
  replace s1 := cell_keep HB1.out s1
  replace s2 := cell_keep HB1.out s2
  replace s3 := cell_keep HB1.out s3
  replace s4 := cell_keep HB1.out s4
  replace s5 := cell_keep HB1.out s5
  replace s6 := cell_keep HB1.out s6
  replace s7 := cell_keep HB1.out s7
  replace s8 := cell_keep HB1.out s8
  replace s9 := cell_keep HB1.out s9
  replace s10 := cell_keep HB1.out s10
  replace s11 := cell_keep HB1.out s11
  replace s12 := cell_keep HB1.out s12
  have HBX := hide (andthen HBW.out HB1.out)
  clear HB1 HQ2
  refine (eis_v _ ⟨u, t, s, 10081, o, ⟨fr, ev, ct, un, ds, ms, ys⟩, x⟩ m false _ rfl HLQ.out HN1.out).mono ?_
  rintro e u0 ⟨rfl, hb0⟩
  replace HBX := hide (andthen HBX.out hb0)
  replace HL := hide (HL.out.keep hb0)
  replace HLQ := hide (HLQ.out.keep hb0)
  replace s0 := cell_keep hb0 s0
  replace s1 := cell_keep hb0 s1
  replace s2 := cell_keep hb0 s2
  replace s3 := cell_keep hb0 s3
  replace s4 := cell_keep hb0 s4
  replace s5 := cell_keep hb0 s5
  replace s6 := cell_keep hb0 s6
  replace s7 := cell_keep hb0 s7
  replace s8 := cell_keep hb0 s8
  replace s9 := cell_keep hb0 s9
  replace s10 := cell_keep hb0 s10
  replace s11 := cell_keep hb0 s11
  replace s12 := cell_keep hb0 s12
  replace q0 := cell_keep hb0 q0
  replace q1 := cell_keep hb0 q1
  replace q2 := cell_keep hb0 q2
  replace q3 := cell_keep hb0 q3
  replace q4 := cell_keep hb0 q4
  replace q5 := cell_keep hb0 q5
  replace q6 := cell_keep hb0 q6
  replace q7 := cell_keep hb0 q7
  replace q8 := cell_keep hb0 q8
  replace q9 := cell_keep hb0 q9
  replace q10 := cell_keep hb0 q10
  replace q11 := cell_keep hb0 q11
  replace q12 := cell_keep hb0 q12
  clear hb0
  go_wp2_with fail
  refine (lines_v _ ⟨u, t, s, 10081, o, ⟨fr, ev, ct, un, ds, ms, ys⟩, x⟩ m _ rfl HLQ.out (HE.out.keep HBX.out) HN1.out).mono ?_
  rintro e u1 ⟨AL, capL, rfl, hb1⟩
  replace HBX := hide (andthen HBX.out hb1)
  replace HL := hide (HL.out.keep hb1)
  replace HLQ := hide (HLQ.out.keep hb1)
  replace s0 := cell_keep hb1 s0
  replace s1 := cell_keep hb1 s1
  replace s2 := cell_keep hb1 s2
  replace s3 := cell_keep hb1 s3
  replace s4 := cell_keep hb1 s4
  replace s5 := cell_keep hb1 s5
  replace s6 := cell_keep hb1 s6
  replace s7 := cell_keep hb1 s7
  replace s8 := cell_keep hb1 s8
  replace s9 := cell_keep hb1 s9
  replace s10 := cell_keep hb1 s10
  replace s11 := cell_keep hb1 s11
  replace s12 := cell_keep hb1 s12
  replace q0 := cell_keep hb1 q0
  replace q1 := cell_keep hb1 q1
  replace q2 := cell_keep hb1 q2
  replace q3 := cell_keep hb1 q3
  replace q4 := cell_keep hb1 q4
  replace q5 := cell_keep hb1 q5
  replace q6 := cell_keep hb1 q6
  replace q7 := cell_keep hb1 q7
  replace q8 := cell_keep hb1 q8
  replace q9 := cell_keep hb1 q9
  replace q10 := cell_keep hb1 q10
  replace q11 := cell_keep hb1 q11
  replace q12 := cell_keep hb1 q12
  clear hb1
  go_wp2_with fail
  refine (esame_v _ _ ⟨u, t, s, l, o, ⟨fr, ev, ct, un, ds, ms, ys⟩, x⟩ ⟨u, t, s, 10081, o, ⟨fr, ev, ct, un, ds, ms, ys⟩, x⟩ m m false _ rfl rfl HL.out HLQ.out (Ev.same_no HIS.out HN1.out)).mono ?_
  rintro e u2 ⟨rfl, hb2⟩
  replace HBX := hide (andthen HBX.out hb2)
  replace HL := hide (HL.out.keep hb2)
  replace HLQ := hide (HLQ.out.keep hb2)
  replace s0 := cell_keep hb2 s0
  replace s1 := cell_keep hb2 s1
  replace s2 := cell_keep hb2 s2
  replace s3 := cell_keep hb2 s3
  replace s4 := cell_keep hb2 s4
  replace s5 := cell_keep hb2 s5
  replace s6 := cell_keep hb2 s6
  replace s7 := cell_keep hb2 s7
  replace s8 := cell_keep hb2 s8
  replace s9 := cell_keep hb2 s9
  replace s10 := cell_keep hb2 s10
  replace s11 := cell_keep hb2 s11
  replace s12 := cell_keep hb2 s12
  replace q0 := cell_keep hb2 q0
  replace q1 := cell_keep hb2 q1
  replace q2 := cell_keep hb2 q2
  replace q3 := cell_keep hb2 q3
  replace q4 := cell_keep hb2 q4
  replace q5 := cell_keep hb2 q5
  replace q6 := cell_keep hb2 q6
  replace q7 := cell_keep hb2 q7
  replace q8 := cell_keep hb2 q8
  replace q9 := cell_keep hb2 q9
  replace q10 := cell_keep hb2 q10
  replace q11 := cell_keep hb2 q11
  replace q12 := cell_keep hb2 q12
  clear hb2
  go_wp2_with fail
  go_ret
  exact ⟨rfl, HBX.out⟩
set_option maxRecDepth 100000 in
set_option maxHeartbeats 4000000 in
theorem parts_5 (u t : Tx) (s l : Int) (o : List Int) (fr ev ct un : Int) (ds : List Wd) (ms ys x : List Int) (m : Mem) (y : Int) (w : World) (y1 : 0 ≤ y) (y2 : y ≤ 255) (h : EvL w ⟨u, t, s, l, o, ⟨fr, ev, ct, un, ds, ms, ys⟩, x⟩ m) (he : EnvE w) (hfew : fewEB ds.length ms.length ys.length (str u).size (str t).size o.length x.length = true) (his : Ev.isE ⟨u, t, s, l, o, ⟨fr, ev, ct, un, ds, ms, ys⟩, x⟩ = true) (hq : y % 8 = 5) :
    Calls Tryz.prog 7 #[.agg #[.string (str u), .string (str t), .int .i64 s, .int .i64 l, .slice m.O o.length m.oc, .int .i64 fr, .int .i64 ev, .int .i64 ct, .int .i64 un, .slice m.D ds.length m.dc, .slice m.M ms.length m.mc, .slice m.Y ys.length m.yc, .slice m.X x.length m.xc], .int .u8 y] w (Ans w (.bool true)) := by
  have HE := hide he
  have HFEW := hide hfew
  have HBX := hide (more (start w) (.cells #[.string (str u), .string (str t), .int .i64 s, .int .i64 l, .slice m.O o.length m.oc, .int .i64 fr, .int .i64 ev, .int .i64 ct, .int .i64 un, .slice m.D ds.length m.dc, .slice m.M ms.length m.mc, .slice m.Y ys.length m.yc, .slice m.X x.length m.xc] 27))
  have hk := blk_new w #[.string (str u), .string (str t), .int .i64 s, .int .i64 l, .slice m.O o.length m.oc, .int .i64 fr, .int .i64 ev, .int .i64 ct, .int .i64 un, .slice m.D ds.length m.dc, .slice m.M ms.length m.mc, .slice m.Y ys.length m.yc, .slice m.X x.length m.xc] 27
  have s0 := hk.cell 0 (by simp)
  have s1 := hk.cell 1 (by simp)
  have s2 := hk.cell 2 (by simp)
  have s3 := hk.cell 3 (by simp)
  have s4 := hk.cell 4 (by simp)
  have s5 := hk.cell 5 (by simp)
  have s6 := hk.cell 6 (by simp)
  have s7 := hk.cell 7 (by simp)
  have s8 := hk.cell 8 (by simp)
  have s9 := hk.cell 9 (by simp)
  have s10 := hk.cell 10 (by simp)
  have s11 := hk.cell 11 (by simp)
  have s12 := hk.cell 12 (by simp)
  simp only [List.getElem_cons_zero, List.getElem_cons_succ] at s0 s1 s2 s3 s4 s5 s6 s7 s8 s9 s10 s11 s12
  have HL := hide (h.keep HBX.out)
  have HN1 := hide (Ev.bad_5 ⟨u, t, s, l, o, ⟨fr, ev, ct, un, ds, ms, ys⟩, x⟩)
  have HIS := hide his
  have HX8 := hide hq
  clear h he his hq hfew hk
  go_enter Tryz.func7, Tryz.ntmps7
  go_wp2_with fail
  refine (known_any _ (HE.out.keep HBX.out)).mono ?_
  rintro e w1 ⟨rfl, hb1⟩
  replace HBX := hide (andthen HBX.out hb1)
  replace HL := hide (HL.out.keep hb1)
  replace s0 := cell_keep hb1 s0
  replace s1 := cell_keep hb1 s1
  replace s2 := cell_keep hb1 s2
  replace s3 := cell_keep hb1 s3
  replace s4 := cell_keep hb1 s4
  replace s5 := cell_keep hb1 s5
  replace s6 := cell_keep hb1 s6
  replace s7 := cell_keep hb1 s7
  replace s8 := cell_keep hb1 s8
  replace s9 := cell_keep hb1 s9
  replace s10 := cell_keep hb1 s10
  replace s11 := cell_keep hb1 s11
  replace s12 := cell_keep hb1 s12
  clear hb1
  go_wp2_with fail
  refine (ans_is (fewE_any (str u) (str t) s l m.O o.length m.oc fr ev ct un m.D m.M m.Y m.X ds.length m.dc ms.length m.mc ys.length m.yc x.length m.xc _) HFEW.out).mono ?_
  rintro e w2 ⟨rfl, hb1⟩
  replace HBX := hide (andthen HBX.out hb1)
  replace HL := hide (HL.out.keep hb1)
  replace s0 := cell_keep hb1 s0
  replace s1 := cell_keep hb1 s1
  replace s2 := cell_keep hb1 s2
  replace s3 := cell_keep hb1 s3
  replace s4 := cell_keep hb1 s4
  replace s5 := cell_keep hb1 s5
  replace s6 := cell_keep hb1 s6
  replace s7 := cell_keep hb1 s7
  replace s8 := cell_keep hb1 s8
  replace s9 := cell_keep hb1 s9
  replace s10 := cell_keep hb1 s10
  replace s11 := cell_keep hb1 s11
  replace s12 := cell_keep hb1 s12
  clear hb1
  go_wp2_with fail
  refine (eis_at ⟨u, t, s, l, o, ⟨fr, ev, ct, un, ds, ms, ys⟩, x⟩ m true _ HL.out HIS.out).mono ?_
  rintro e w3 ⟨rfl, hb1⟩
  have HBW := hide (andthen HBX.out hb1)
  replace HL := hide (HL.out.keep hb1)
  replace s0 := cell_keep hb1 s0
  replace s1 := cell_keep hb1 s1
  replace s2 := cell_keep hb1 s2
  replace s3 := cell_keep hb1 s3
  replace s4 := cell_keep hb1 s4
  replace s5 := cell_keep hb1 s5
  replace s6 := cell_keep hb1 s6
  replace s7 := cell_keep hb1 s7
  replace s8 := cell_keep hb1 s8
  replace s9 := cell_keep hb1 s9
  replace s10 := cell_keep hb1 s10
  replace s11 := cell_keep hb1 s11
  replace s12 := cell_keep hb1 s12
  clear hb1 HBX
  have x0 : (y % 8 == 0) = false := by rw [HX8.out]; rfl
  have x1 : (y % 8 == 1) = false := by rw [HX8.out]; rfl
  have x2 : (y % 8 == 2) = false := by rw [HX8.out]; rfl
  have x3 : (y % 8 == 3) = false := by rw [HX8.out]; rfl
  have x4 : (y % 8 == 4) = false := by rw [HX8.out]; rfl
  have x5 : (y % 8 == 5) = true := by rw [HX8.out]; rfl
  have x6 : (y % 8 == 6) = false := by rw [HX8.out]; rfl
  have HQ := hide (blk_new w3 #[.string (str u), .string (str t), .int .i64 s, .int .i64 l, .slice m.O o.length m.oc, .int .i64 fr, .int .i64 ev, .int .i64 ct, .int .i64 un, .slice m.D ds.length m.dc, .slice m.M ms.length m.mc, .slice m.Y ys.length m.yc, .slice m.X x.length m.xc] 27)
  have HB0 := hide (more (start w3) (.cells #[.string (str u), .string (str t), .int .i64 s, .int .i64 l, .slice m.O o.length m.oc, .int .i64 fr, .int .i64 ev, .int .i64 ct, .int .i64 un, .slice m.D ds.length m.dc, .slice m.M ms.length m.mc, .slice m.Y ys.length m.yc, .slice m.X x.length m.xc] 27))
  have hXge : w.heap.size ≤ w3.heap.size := HBW.out.size
  have hXlt : w.heap.size < w3.heap.size := block_lt_of_cell s0
  have HL2 := hide (HL.out.keep HB0.out)
  have t4 := cell_keep HB0.out s4
  have t12 := cell_keep HB0.out s12
  have q0 := HQ.out.cell 0 (by simp)
  have q1 := HQ.out.cell 1 (by simp)
  have q2 := HQ.out.cell 2 (by simp)
  have q3 := HQ.out.cell 3 (by simp)
  have q4 := HQ.out.cell 4 (by simp)
  have q5 := HQ.out.cell 5 (by simp)
  have q6 := HQ.out.cell 6 (by simp)
  have q7 := HQ.out.cell 7 (by simp)
  have q8 := HQ.out.cell 8 (by simp)
  have q9 := HQ.out.cell 9 (by simp)
  have q10 := HQ.out.cell 10 (by simp)
  have q11 := HQ.out.cell 11 (by simp)
  have q12 := HQ.out.cell 12 (by simp)
  simp only [List.getElem_cons_zero, List.getElem_cons_succ] at q0 q1 q2 q3 q4 q5 q6 q7 q8 q9 q10 q11 q12
  have qf4 := HQ.out.free 4
  go_upto_region 6 with (fail)
  generalize w3.alloc (.cells #[.string (str u), .string (str t), .int .i64 s, .int .i64 l, .slice m.O o.length m.oc, .int .i64 fr, .int .i64 ev, .int .i64 ct, .int .i64 un, .slice m.D ds.length m.dc, .slice m.M ms.length m.mc, .slice m.Y ys.length m.yc, .slice m.X x.length m.xc] 27) = W1 at *
  go_wp2_with fail
  have HQ2 : Hid (BlkAt (W1.setCell ⟨w3.heap.size, 4, none⟩ (.slice none 0 0)) w3.heap.size [.string (str u), .string (str t), .int .i64 s, .int .i64 l, .slice none 0 0, .int .i64 fr, .int .i64 ev, .int .i64 ct, .int .i64 un, .slice m.D ds.length m.dc, .slice m.M ms.length m.mc, .slice m.Y ys.length m.yc, .slice m.X x.length m.xc]) := hide ((HQ.out).set 4 (.slice none 0 0) (by simp))
  have HB1 := hide (Below.setCell HB0.out (p := ⟨w3.heap.size, 4, none⟩) (Nat.le_refl _) (.slice none 0 0))
  clear HQ HB0 HL2 q0 q1 q2 q3 q4 q5 q6 q7 q8 q9 q10 q11 q12 qf4 t4 t12
  generalize (W1.setCell ⟨w3.heap.size, 4, none⟩ (.slice none 0 0)) = Z at *
  have q0 := HQ2.out.cell 0 (by simp)
  have q1 := HQ2.out.cell 1 (by simp)
  have q2 := HQ2.out.cell 2 (by simp)
  have q3 := HQ2.out.cell 3 (by simp)
  have q4 := HQ2.out.cell 4 (by simp)
  have q5 := HQ2.out.cell 5 (by simp)
  have q6 := HQ2.out.cell 6 (by simp)
  have q7 := HQ2.out.cell 7 (by simp)
  have q8 := HQ2.out.cell 8 (by simp)
  have q9 := HQ2.out.cell 9 (by simp)
  have q10 := HQ2.out.cell 10 (by simp)
  have q11 := HQ2.out.cell 11 (by simp)
  have q12 := HQ2.out.cell 12 (by simp)
  simp only [List.getElem_cons_zero, List.getElem_cons_succ] at q0 q1 q2 q3 q4 q5 q6 q7 q8 q9 q10 q11 q12
  replace HL := hide (HL.out.keep HB1.out)
  have HLQ : Hid (EvL Z ⟨u, t, s, l, [], ⟨fr, ev, ct, un, ds, ms, ys⟩, x⟩ { m with O := none, oc := 0 }) := hide ⟨fun h => absurd rfl h, (by show ([] : List Int).length ≤ 1000; decide), HL.out.r, HL.out.x, HL.out.xl, HL.out.ul, HL.out.tl⟩
  replace s0 := cell_keep HB1.out s0
  replace s1 := cell_keep HB1.out s1
  replace s2 := cell_keep HB1.out s2
  replace s3 := cell_keep HB1.out s3
  replace s4 := cell_keep HB1.out s4
  replace s5 := cell_keep HB1.out s5
  replace s6 := cell_keep HB1.out s6
  replace s7 := cell_keep HB1.out s7
  replace s8 := cell_keep HB1.out s8
  replace s9 := cell_keep HB1.out s9
  replace s10 := cell_keep HB1.out s10
  replace s11 := cell_keep HB1.out s11
  replace s12 := cell_keep HB1.out s12
  have HBX := hide (andthen HBW.out HB1.out)
  clear HB1 HQ2
  refine (eis_v _ ⟨u, t, s, l, [], ⟨fr, ev, ct, un, ds, ms, ys⟩, x⟩ { m with O := none, oc := 0 } false _ rfl HLQ.out HN1.out).mono ?_
  rintro e u0 ⟨rfl, hb0⟩
  replace HBX := hide (andthen HBX.out hb0)
  replace HL := hide (HL.out.keep hb0)
  replace HLQ := hide (HLQ.out.keep hb0)
  replace s0 := cell_keep hb0 s0
  replace s1 := cell_keep hb0 s1
  replace s2 := cell_keep hb0 s2
  replace s3 := cell_keep hb0 s3
  replace s4 := cell_keep hb0 s4
  replace s5 := cell_keep hb0 s5
  replace s6 := cell_keep hb0 s6
  replace s7 := cell_keep hb0 s7
  replace s8 := cell_keep hb0 s8
  replace s9 := cell_keep hb0 s9
  replace s10 := cell_keep hb0 s10
  replace s11 := cell_keep hb0 s11
  replace s12 := cell_keep hb0 s12
  replace q0 := cell_keep hb0 q0
  replace q1 := cell_keep hb0 q1
  replace q2 := cell_keep hb0 q2
  replace q3 := cell_keep hb0 q3
  replace q4 := cell_keep hb0 q4
  replace q5 := cell_keep hb0 q5
  replace q6 := cell_keep hb0 q6
  replace q7 := cell_keep hb0 q7
  replace q8 := cell_keep hb0 q8
  replace q9 := cell_keep hb0 q9
  replace q10 := cell_keep hb0 q10
  replace q11 := cell_keep hb0 q11
  replace q12 := cell_keep hb0 q12
  clear hb0
  go_wp2_with fail
  refine (lines_v _ ⟨u, t, s, l, [], ⟨fr, ev, ct, un, ds, ms, ys⟩, x⟩ { m with O := none, oc := 0 } _ rfl HLQ.out (HE.out.keep HBX.out) HN1.out).mono ?_
  rintro e u1 ⟨AL, capL, rfl, hb1⟩
  replace HBX := hide (andthen HBX.out hb1)
  replace HL := hide (HL.out.keep hb1)
  replace HLQ := hide (HLQ.out.keep hb1)
  replace s0 := cell_keep hb1 s0
  replace s1 := cell_keep hb1 s1
  replace s2 := cell_keep hb1 s2
  replace s3 := cell_keep hb1 s3
  replace s4 := cell_keep hb1 s4
  replace s5 := cell_keep hb1 s5
  replace s6 := cell_keep hb1 s6
  replace s7 := cell_keep hb1 s7
  replace s8 := cell_keep hb1 s8
  replace s9 := cell_keep hb1 s9
  replace s10 := cell_keep hb1 s10
  replace s11 := cell_keep hb1 s11
  replace s12 := cell_keep hb1 s12
  replace q0 := cell_keep hb1 q0
  replace q1 := cell_keep hb1 q1
  replace q2 := cell_keep hb1 q2
  replace q3 := cell_keep hb1 q3
  replace q4 := cell_keep hb1 q4
  replace q5 := cell_keep hb1 q5
  replace q6 := cell_keep hb1 q6
  replace q7 := cell_keep hb1 q7
  replace q8 := cell_keep hb1 q8
  replace q9 := cell_keep hb1 q9
  replace q10 := cell_keep hb1 q10
  replace q11 := cell_keep hb1 q11
  replace q12 := cell_keep hb1 q12
  clear hb1
  go_wp2_with fail
  refine (esame_v _ _ ⟨u, t, s, l, o, ⟨fr, ev, ct, un, ds, ms, ys⟩, x⟩ ⟨u, t, s, l, [], ⟨fr, ev, ct, un, ds, ms, ys⟩, x⟩ m { m with O := none, oc := 0 } false _ rfl rfl HL.out HLQ.out (Ev.same_no HIS.out HN1.out)).mono ?_
  rintro e u2 ⟨rfl, hb2⟩
  replace HBX := hide (andthen HBX.out hb2)
  replace HL := hide (HL.out.keep hb2)
  replace HLQ := hide (HLQ.out.keep hb2)
  replace s0 := cell_keep hb2 s0
  replace s1 := cell_keep hb2 s1
  replace s2 := cell_keep hb2 s2
  replace s3 := cell_keep hb2 s3
  replace s4 := cell_keep hb2 s4
  replace s5 := cell_keep hb2 s5
  replace s6 := cell_keep hb2 s6
  replace s7 := cell_keep hb2 s7
  replace s8 := cell_keep hb2 s8
  replace s9 := cell_keep hb2 s9
  replace s10 := cell_keep hb2 s10
  replace s11 := cell_keep hb2 s11
  replace s12 := cell_keep hb2 s12
  replace q0 := cell_keep hb2 q0
  replace q1 := cell_keep hb2 q1
  replace q2 := cell_keep hb2 q2
  replace q3 := cell_keep hb2 q3
  replace q4 := cell_keep hb2 q4
  replace q5 := cell_keep hb2 q5
  replace q6 := cell_keep hb2 q6
  replace q7 := cell_keep hb2 q7
  replace q8 := cell_keep hb2 q8
  replace q9 := cell_keep hb2 q9
  replace q10 := cell_keep hb2 q10
  replace q11 := cell_keep hb2 q11
  replace q12 := cell_keep hb2 q12
  clear hb2
  go_wp2_with fail
  go_ret
  exact ⟨rfl, HBX.out⟩
set_option maxRecDepth 100000 in
set_option maxHeartbeats 4000000 in
theorem parts_6 (u t : Tx) (s l : Int) (o : List Int) (fr ev ct un : Int) (ds : List Wd) (ms ys x : List Int) (m : Mem) (y : Int) (w : World) (y1 : 0 ≤ y) (y2 : y ≤ 255) (h : EvL w ⟨u, t, s, l, o, ⟨fr, ev, ct, un, ds, ms, ys⟩, x⟩ m) (he : EnvE w) (hfew : fewEB ds.length ms.length ys.length (str u).size (str t).size o.length x.length = true) (his : Ev.isE ⟨u, t, s, l, o, ⟨fr, ev, ct, un, ds, ms, ys⟩, x⟩ = true) (hq : y % 8 = 6) :
    Calls Tryz.prog 7 #[.agg #[.string (str u), .string (str t), .int .i64 s, .int .i64 l, .slice m.O o.length m.oc, .int .i64 fr, .int .i64 ev, .int .i64 ct, .int .i64 un, .slice m.D ds.length m.dc, .slice m.M ms.length m.mc, .slice m.Y ys.length m.yc, .slice m.X x.length m.xc], .int .u8 y] w (Ans w (.bool true)) := by
  have HE := hide he
  have HFEW := hide hfew
  have HBX := hide (more (start w) (.cells #[.string (str u), .string (str t), .int .i64 s, .int .i64 l, .slice m.O o.length m.oc, .int .i64 fr, .int .i64 ev, .int .i64 ct, .int .i64 un, .slice m.D ds.length m.dc, .slice m.M ms.length m.mc, .slice m.Y ys.length m.yc, .slice m.X x.length m.xc] 27))
  have hk := blk_new w #[.string (str u), .string (str t), .int .i64 s, .int .i64 l, .slice m.O o.length m.oc, .int .i64 fr, .int .i64 ev, .int .i64 ct, .int .i64 un, .slice m.D ds.length m.dc, .slice m.M ms.length m.mc, .slice m.Y ys.length m.yc, .slice m.X x.length m.xc] 27
  have s0 := hk.cell 0 (by simp)
  have s1 := hk.cell 1 (by simp)
  have s2 := hk.cell 2 (by simp)
  have s3 := hk.cell 3 (by simp)
  have s4 := hk.cell 4 (by simp)
  have s5 := hk.cell 5 (by simp)
  have s6 := hk.cell 6 (by simp)
  have s7 := hk.cell 7 (by simp)
  have s8 := hk.cell 8 (by simp)
  have s9 := hk.cell 9 (by simp)
  have s10 := hk.cell 10 (by simp)
  have s11 := hk.cell 11 (by simp)
  have s12 := hk.cell 12 (by simp)
  simp only [List.getElem_cons_zero, List.getElem_cons_succ] at s0 s1 s2 s3 s4 s5 s6 s7 s8 s9 s10 s11 s12
  have HL := hide (h.keep HBX.out)
  have HN1 := hide (Ev.bad_6 ⟨u, t, s, l, o, ⟨fr, ev, ct, un, ds, ms, ys⟩, x⟩)
  have HIS := hide his
  have HX8 := hide hq
  clear h he his hq hfew hk
  go_enter Tryz.func7, Tryz.ntmps7
  go_wp2_with fail
  refine (known_any _ (HE.out.keep HBX.out)).mono ?_
  rintro e w1 ⟨rfl, hb1⟩
  replace HBX := hide (andthen HBX.out hb1)
  replace HL := hide (HL.out.keep hb1)
  replace s0 := cell_keep hb1 s0
  replace s1 := cell_keep hb1 s1
  replace s2 := cell_keep hb1 s2
  replace s3 := cell_keep hb1 s3
  replace s4 := cell_keep hb1 s4
  replace s5 := cell_keep hb1 s5
  replace s6 := cell_keep hb1 s6
  replace s7 := cell_keep hb1 s7
  replace s8 := cell_keep hb1 s8
  replace s9 := cell_keep hb1 s9
  replace s10 := cell_keep hb1 s10
  replace s11 := cell_keep hb1 s11
  replace s12 := cell_keep hb1 s12
  clear hb1
  go_wp2_with fail
  refine (ans_is (fewE_any (str u) (str t) s l m.O o.length m.oc fr ev ct un m.D m.M m.Y m.X ds.length m.dc ms.length m.mc ys.length m.yc x.length m.xc _) HFEW.out).mono ?_
  rintro e w2 ⟨rfl, hb1⟩
  replace HBX := hide (andthen HBX.out hb1)
  replace HL := hide (HL.out.keep hb1)
  replace s0 := cell_keep hb1 s0
  replace s1 := cell_keep hb1 s1
  replace s2 := cell_keep hb1 s2
  replace s3 := cell_keep hb1 s3
  replace s4 := cell_keep hb1 s4
  replace s5 := cell_keep hb1 s5
  replace s6 := cell_keep hb1 s6
  replace s7 := cell_keep hb1 s7
  replace s8 := cell_keep hb1 s8
  replace s9 := cell_keep hb1 s9
  replace s10 := cell_keep hb1 s10
  replace s11 := cell_keep hb1 s11
  replace s12 := cell_keep hb1 s12
  clear hb1
  go_wp2_with fail
  refine (eis_at ⟨u, t, s, l, o, ⟨fr, ev, ct, un, ds, ms, ys⟩, x⟩ m true _ HL.out HIS.out).mono ?_
  rintro e w3 ⟨rfl, hb1⟩
  have HBW := hide (andthen HBX.out hb1)
  replace HL := hide (HL.out.keep hb1)
  replace s0 := cell_keep hb1 s0
  replace s1 := cell_keep hb1 s1
  replace s2 := cell_keep hb1 s2
  replace s3 := cell_keep hb1 s3
  replace s4 := cell_keep hb1 s4
  replace s5 := cell_keep hb1 s5
  replace s6 := cell_keep hb1 s6
  replace s7 := cell_keep hb1 s7
  replace s8 := cell_keep hb1 s8
  replace s9 := cell_keep hb1 s9
  replace s10 := cell_keep hb1 s10
  replace s11 := cell_keep hb1 s11
  replace s12 := cell_keep hb1 s12
  clear hb1 HBX
  have x0 : (y % 8 == 0) = false := by rw [HX8.out]; rfl
  have x1 : (y % 8 == 1) = false := by rw [HX8.out]; rfl
  have x2 : (y % 8 == 2) = false := by rw [HX8.out]; rfl
  have x3 : (y % 8 == 3) = false := by rw [HX8.out]; rfl
  have x4 : (y % 8 == 4) = false := by rw [HX8.out]; rfl
  have x5 : (y % 8 == 5) = false := by rw [HX8.out]; rfl
  have x6 : (y % 8 == 6) = true := by rw [HX8.out]; rfl
  have HQ := hide (blk_new w3 #[.string (str u), .string (str t), .int .i64 s, .int .i64 l, .slice m.O o.length m.oc, .int .i64 fr, .int .i64 ev, .int .i64 ct, .int .i64 un, .slice m.D ds.length m.dc, .slice m.M ms.length m.mc, .slice m.Y ys.length m.yc, .slice m.X x.length m.xc] 27)
  have HB0 := hide (more (start w3) (.cells #[.string (str u), .string (str t), .int .i64 s, .int .i64 l, .slice m.O o.length m.oc, .int .i64 fr, .int .i64 ev, .int .i64 ct, .int .i64 un, .slice m.D ds.length m.dc, .slice m.M ms.length m.mc, .slice m.Y ys.length m.yc, .slice m.X x.length m.xc] 27))
  have hXge : w.heap.size ≤ w3.heap.size := HBW.out.size
  have hXlt : w.heap.size < w3.heap.size := block_lt_of_cell s0
  have HL2 := hide (HL.out.keep HB0.out)
  have t4 := cell_keep HB0.out s4
  have t12 := cell_keep HB0.out s12
  have q0 := HQ.out.cell 0 (by simp)
  have q1 := HQ.out.cell 1 (by simp)
  have q2 := HQ.out.cell 2 (by simp)
  have q3 := HQ.out.cell 3 (by simp)
  have q4 := HQ.out.cell 4 (by simp)
  have q5 := HQ.out.cell 5 (by simp)
  have q6 := HQ.out.cell 6 (by simp)
  have q7 := HQ.out.cell 7 (by simp)
  have q8 := HQ.out.cell 8 (by simp)
  have q9 := HQ.out.cell 9 (by simp)
  have q10 := HQ.out.cell 10 (by simp)
  have q11 := HQ.out.cell 11 (by simp)
  have q12 := HQ.out.cell 12 (by simp)
  simp only [List.getElem_cons_zero, List.getElem_cons_succ] at q0 q1 q2 q3 q4 q5 q6 q7 q8 q9 q10 q11 q12
  have qf5 := HQ.out.free 5
  have qf6 := HQ.out.free 6
  have qf7 := HQ.out.free 7
  have qf8 := HQ.out.free 8
  have qf9 := HQ.out.free 9
  have qf10 := HQ.out.free 10
  have qf11 := HQ.out.free 11
  go_upto_region 6 with (fail)
  generalize w3.alloc (.cells #[.string (str u), .string (str t), .int .i64 s, .int .i64 l, .slice m.O o.length m.oc, .int .i64 fr, .int .i64 ev, .int .i64 ct, .int .i64 un, .slice m.D ds.length m.dc, .slice m.M ms.length m.mc, .slice m.Y ys.length m.yc, .slice m.X x.length m.xc] 27) = W1 at *
  go_wp2_with fail
  have HQ2 : Hid (BlkAt (((((((W1.setCell ⟨w3.heap.size, 5, none⟩ (.int .i64 0)).setCell ⟨w3.heap.size, 6, none⟩ (.int .i64 0)).setCell ⟨w3.heap.size, 7, none⟩ (.int .i64 0)).setCell ⟨w3.heap.size, 8, none⟩ (.int .i64 0)).setCell ⟨w3.heap.size, 9, none⟩ (.slice none 0 0)).setCell ⟨w3.heap.size, 10, none⟩ (.slice none 0 0)).setCell ⟨w3.heap.size, 11, none⟩ (.slice none 0 0)) w3.heap.size [.string (str u), .string (str t), .int .i64 s, .int .i64 l, .slice m.O o.length m.oc, .int .i64 0, .int .i64 0, .int .i64 0, .int .i64 0, .slice none 0 0, .slice none 0 0, .slice none 0 0, .slice m.X x.length m.xc]) := hide ((((((((((((((HQ.out).set 5 (.int .i64 0) (by simp))).set 6 (.int .i64 0) (by simp))).set 7 (.int .i64 0) (by simp))).set 8 (.int .i64 0) (by simp))).set 9 (.slice none 0 0) (by simp))).set 10 (.slice none 0 0) (by simp))).set 11 (.slice none 0 0) (by simp))
  have HB1 := hide (Below.setCell (Below.setCell (Below.setCell (Below.setCell (Below.setCell (Below.setCell (Below.setCell HB0.out (p := ⟨w3.heap.size, 5, none⟩) (Nat.le_refl _) (.int .i64 0)) (p := ⟨w3.heap.size, 6, none⟩) (Nat.le_refl _) (.int .i64 0)) (p := ⟨w3.heap.size, 7, none⟩) (Nat.le_refl _) (.int .i64 0)) (p := ⟨w3.heap.size, 8, none⟩) (Nat.le_refl _) (.int .i64 0)) (p := ⟨w3.heap.size, 9, none⟩) (Nat.le_refl _) (.slice none 0 0)) (p := ⟨w3.heap.size, 10, none⟩) (Nat.le_refl _) (.slice none 0 0)) (p := ⟨w3.heap.size, 11, none⟩) (Nat.le_refl _) (.slice none 0 0))
  clear HQ HB0 HL2 q0 q1 q2 q3 q4 q5 q6 q7 q8 q9 q10 q11 q12 qf5 qf6 qf7 qf8 qf9 qf10 qf11 t4 t12
  generalize (((((((W1.setCell ⟨w3.heap.size, 5, none⟩ (.int .i64 0)).setCell ⟨w3.heap.size, 6, none⟩ (.int .i64 0)).setCell ⟨w3.heap.size, 7, none⟩ (.int .i64 0)).setCell ⟨w3.heap.size, 8, none⟩ (.int .i64 0)).setCell ⟨w3.heap.size, 9, none⟩ (.slice none 0 0)).setCell ⟨w3.heap.size, 10, none⟩ (.slice none 0 0)).setCell ⟨w3.heap.size, 11, none⟩ (.slice none 0 0)) = Z at *
  have q0 := HQ2.out.cell 0 (by simp)
  have q1 := HQ2.out.cell 1 (by simp)
  have q2 := HQ2.out.cell 2 (by simp)
  have q3 := HQ2.out.cell 3 (by simp)
  have q4 := HQ2.out.cell 4 (by simp)
  have q5 := HQ2.out.cell 5 (by simp)
  have q6 := HQ2.out.cell 6 (by simp)
  have q7 := HQ2.out.cell 7 (by simp)
  have q8 := HQ2.out.cell 8 (by simp)
  have q9 := HQ2.out.cell 9 (by simp)
  have q10 := HQ2.out.cell 10 (by simp)
  have q11 := HQ2.out.cell 11 (by simp)
  have q12 := HQ2.out.cell 12 (by simp)
  simp only [List.getElem_cons_zero, List.getElem_cons_succ] at q0 q1 q2 q3 q4 q5 q6 q7 q8 q9 q10 q11 q12
  replace HL := hide (HL.out.keep HB1.out)
  have HLQ : Hid (EvL Z ⟨u, t, s, l, o, ⟨0, 0, 0, 0, [], [], []⟩, x⟩ ⟨m.O, m.oc, none, 0, none, 0, none, 0, m.X, m.xc⟩) := hide ⟨HL.out.o, HL.out.ol, lies_once _, HL.out.x, HL.out.xl, HL.out.ul, HL.out.tl⟩
  replace s0 := cell_keep HB1.out s0
  replace s1 := cell_keep HB1.out s1
  replace s2 := cell_keep HB1.out s2
  replace s3 := cell_keep HB1.out s3
  replace s4 := cell_keep HB1.out s4
  replace s5 := cell_keep HB1.out s5
  replace s6 := cell_keep HB1.out s6
  replace s7 := cell_keep HB1.out s7
  replace s8 := cell_keep HB1.out s8
  replace s9 := cell_keep HB1.out s9
  replace s10 := cell_keep HB1.out s10
  replace s11 := cell_keep HB1.out s11
  replace s12 := cell_keep HB1.out s12
  have HBX := hide (andthen HBW.out HB1.out)
  clear HB1 HQ2
  refine (eis_v _ ⟨u, t, s, l, o, ⟨0, 0, 0, 0, [], [], []⟩, x⟩ ⟨m.O, m.oc, none, 0, none, 0, none, 0, m.X, m.xc⟩ false _ rfl HLQ.out HN1.out).mono ?_
  rintro e u0 ⟨rfl, hb0⟩
  replace HBX := hide (andthen HBX.out hb0)
  replace HL := hide (HL.out.keep hb0)
  replace HLQ := hide (HLQ.out.keep hb0)
  replace s0 := cell_keep hb0 s0
  replace s1 := cell_keep hb0 s1
  replace s2 := cell_keep hb0 s2
  replace s3 := cell_keep hb0 s3
  replace s4 := cell_keep hb0 s4
  replace s5 := cell_keep hb0 s5
  replace s6 := cell_keep hb0 s6
  replace s7 := cell_keep hb0 s7
  replace s8 := cell_keep hb0 s8
  replace s9 := cell_keep hb0 s9
  replace s10 := cell_keep hb0 s10
  replace s11 := cell_keep hb0 s11
  replace s12 := cell_keep hb0 s12
  replace q0 := cell_keep hb0 q0
  replace q1 := cell_keep hb0 q1
  replace q2 := cell_keep hb0 q2
  replace q3 := cell_keep hb0 q3
  replace q4 := cell_keep hb0 q4
  replace q5 := cell_keep hb0 q5
  replace q6 := cell_keep hb0 q6
  replace q7 := cell_keep hb0 q7
  replace q8 := cell_keep hb0 q8
  replace q9 := cell_keep hb0 q9
  replace q10 := cell_keep hb0 q10
  replace q11 := cell_keep hb0 q11
  replace q12 := cell_keep hb0 q12
  clear hb0
  go_wp2_with fail
  refine (lines_v _ ⟨u, t, s, l, o, ⟨0, 0, 0, 0, [], [], []⟩, x⟩ ⟨m.O, m.oc, none, 0, none, 0, none, 0, m.X, m.xc⟩ _ rfl HLQ.out (HE.out.keep HBX.out) HN1.out).mono ?_
  rintro e u1 ⟨AL, capL, rfl, hb1⟩
  replace HBX := hide (andthen HBX.out hb1)
  replace HL := hide (HL.out.keep hb1)
  replace HLQ := hide (HLQ.out.keep hb1)
  replace s0 := cell_keep hb1 s0
  replace s1 := cell_keep hb1 s1
  replace s2 := cell_keep hb1 s2
  replace s3 := cell_keep hb1 s3
  replace s4 := cell_keep hb1 s4
  replace s5 := cell_keep hb1 s5
  replace s6 := cell_keep hb1 s6
  replace s7 := cell_keep hb1 s7
  replace s8 := cell_keep hb1 s8
  replace s9 := cell_keep hb1 s9
  replace s10 := cell_keep hb1 s10
  replace s11 := cell_keep hb1 s11
  replace s12 := cell_keep hb1 s12
  replace q0 := cell_keep hb1 q0
  replace q1 := cell_keep hb1 q1
  replace q2 := cell_keep hb1 q2
  replace q3 := cell_keep hb1 q3
  replace q4 := cell_keep hb1 q4
  replace q5 := cell_keep hb1 q5
  replace q6 := cell_keep hb1 q6
  replace q7 := cell_keep hb1 q7
  replace q8 := cell_keep hb1 q8
  replace q9 := cell_keep hb1 q9
  replace q10 := cell_keep hb1 q10
  replace q11 := cell_keep hb1 q11
  replace q12 := cell_keep hb1 q12
  clear hb1
  go_wp2_with fail
  refine (esame_v _ _ ⟨u, t, s, l, o, ⟨fr, ev, ct, un, ds, ms, ys⟩, x⟩ ⟨u, t, s, l, o, ⟨0, 0, 0, 0, [], [], []⟩, x⟩ m ⟨m.O, m.oc, none, 0, none, 0, none, 0, m.X, m.xc⟩ false _ rfl rfl HL.out HLQ.out (Ev.same_no HIS.out HN1.out)).mono ?_
  rintro e u2 ⟨rfl, hb2⟩
  replace HBX := hide (andthen HBX.out hb2)
  replace HL := hide (HL.out.keep hb2)
  replace HLQ := hide (HLQ.out.keep hb2)
  replace s0 := cell_keep hb2 s0
  replace s1 := cell_keep hb2 s1
  replace s2 := cell_keep hb2 s2
  replace s3 := cell_keep hb2 s3
  replace s4 := cell_keep hb2 s4
  replace s5 := cell_keep hb2 s5
  replace s6 := cell_keep hb2 s6
  replace s7 := cell_keep hb2 s7
  replace s8 := cell_keep hb2 s8
  replace s9 := cell_keep hb2 s9
  replace s10 := cell_keep hb2 s10
  replace s11 := cell_keep hb2 s11
  replace s12 := cell_keep hb2 s12
  replace q0 := cell_keep hb2 q0
  replace q1 := cell_keep hb2 q1
  replace q2 := cell_keep hb2 q2
  replace q3 := cell_keep hb2 q3
  replace q4 := cell_keep hb2 q4
  replace q5 := cell_keep hb2 q5
  replace q6 := cell_keep hb2 q6
  replace q7 := cell_keep hb2 q7
  replace q8 := cell_keep hb2 q8
  replace q9 := cell_keep hb2 q9
  replace q10 := cell_keep hb2 q10
  replace q11 := cell_keep hb2 q11
  replace q12 := cell_keep hb2 q12
  clear hb2
  go_wp2_with fail
  go_ret
  exact ⟨rfl, HBX.out⟩

end Go.Proofs.YtgdjeddelcfgeaaGreatDoor

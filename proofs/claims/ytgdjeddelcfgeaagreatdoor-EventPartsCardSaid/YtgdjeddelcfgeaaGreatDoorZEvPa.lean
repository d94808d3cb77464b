/- EventParts walked: a part that may not be makes an event none. -/
import Derived.Test.YtgdjeddelcfgeaaGreatDoorZEvPb
import Derived.Test.YtgdjeddelcfgeaaGreatDoorZEvPc
import Derived.Test.YtgdjeddelcfgeaaGreatDoorZEvPd
namespace Go.Proofs.YtgdjeddelcfgeaaGreatDoor
open Go.RowKit Rul Rt Go.Sort

set_option maxRecDepth 100000 in
set_option maxHeartbeats 2000000 in
theorem parts_none (u t : Tx) (s l : Int) (o : List Int) (fr ev ct un : Int) (ds : List Wd) (ms ys x : List Int) (m : Mem) (y : Int) (w : World) (h : EvL w ⟨u, t, s, l, o, ⟨fr, ev, ct, un, ds, ms, ys⟩, x⟩ m) (he : EnvE w) (hfew : fewEB ds.length ms.length ys.length (str u).size (str t).size o.length x.length = true) (his : Ev.isE ⟨u, t, s, l, o, ⟨fr, ev, ct, un, ds, ms, ys⟩, x⟩ = false) :
    Calls Tryz.prog 7 #[.agg #[.string (str u), .string (str t), .int .i64 s, .int .i64 l, .slice m.O o.length m.oc, .int .i64 fr, .int .i64 ev, .int .i64 ct, .int .i64 un, .slice m.D ds.length m.dc, .slice m.M ms.length m.mc, .slice m.Y ys.length m.yc, .slice m.X x.length m.xc], .int .u8 y] w (Ans w (.bool true)) := by
  have HE := hide he
  have HFEW := hide hfew
  have HBX := hide (more (start w) (.cells #[.string (str u), .string (str t), .int .i64 s, .int .i64 l, .slice m.O o.length m.oc, .int .i64 fr, .int .i64 ev, .int .i64 ct, .int .i64 un, .slice m.D ds.length m.dc, .slice m.M ms.length m.mc, .slice m.Y ys.length m.yc, .slice m.X x.length m.xc] 27))
  have hk := blk_new w #[.string (str u), .string (str t), .int .i64 s, .int .i64 l, .slice m.O o.length m.oc, .int .i64 fr, .int .i64 ev, .int .i64 ct, .int .i64 un, .slice m.D ds.length m.dc, .slice m.M ms.length m.mc, .slice m.Y ys.length m.yc, .slice m.X x.length m.xc] 27
  have s0 := hk.cell 0 (by simp)
  have s1 := hk.cell 1 (by simp)
  have s2 := hk.cell 2 (by simp)
  have s3 := hk.cell 3 (by simp)
  have s4 := hk.cell 4 (by simp)
  have s5 := hk.cell 5 (by simp)
  have s6 := hk.cell 6 (by simp)
  have s7 := hk.cell 7 (by simp)
  have s8 := hk.cell 8 (by simp)
  have s9 := hk.cell 9 (by simp)
  have s10 := hk.cell 10 (by simp)
  have s11 := hk.cell 11 (by simp)
  have s12 := hk.cell 12 (by simp)
  simp only [List.getElem_cons_zero, List.getElem_cons_succ] at s0 s1 s2 s3 s4 s5 s6 s7 s8 s9 s10 s11 s12
  have HL := hide (h.keep HBX.out)
  have HIS := hide his
  clear h he his hfew hk
  go_enter Tryz.func7, Tryz.ntmps7
  go_wp2_with fail
  refine (known_any _ (HE.out.keep HBX.out)).mono ?_
  rintro e w1 ⟨rfl, hb1⟩
  replace HBX := hide (andthen HBX.out hb1)
  replace HL := hide (HL.out.keep hb1)
  replace s0 := cell_keep hb1 s0
  replace s1 := cell_keep hb1 s1
  replace s2 := cell_keep hb1 s2
  replace s3 := cell_keep hb1 s3
  replace s4 := cell_keep hb1 s4
  replace s5 := cell_keep hb1 s5
  replace s6 := cell_keep hb1 s6
  replace s7 := cell_keep hb1 s7
  replace s8 := cell_keep hb1 s8
  replace s9 := cell_keep hb1 s9
  replace s10 := cell_keep hb1 s10
  replace s11 := cell_keep hb1 s11
  replace s12 := cell_keep hb1 s12
  clear hb1
  go_wp2_with fail
  refine (ans_is (fewE_any (str u) (str t) s l m.O o.length m.oc fr ev ct un m.D m.M m.Y m.X ds.length m.dc ms.length m.mc ys.length m.yc x.length m.xc _) HFEW.out).mono ?_
  rintro e w2 ⟨rfl, hb1⟩
  replace HBX := hide (andthen HBX.out hb1)
  replace HL := hide (HL.out.keep hb1)
  replace s0 := cell_keep hb1 s0
  replace s1 := cell_keep hb1 s1
  replace s2 := cell_keep hb1 s2
  replace s3 := cell_keep hb1 s3
  replace s4 := cell_keep hb1 s4
  replace s5 := cell_keep hb1 s5
  replace s6 := cell_keep hb1 s6
  replace s7 := cell_keep hb1 s7
  replace s8 := cell_keep hb1 s8
  replace s9 := cell_keep hb1 s9
  replace s10 := cell_keep hb1 s10
  replace s11 := cell_keep hb1 s11
  replace s12 := cell_keep hb1 s12
  clear hb1
  go_wp2_with fail
  refine (eis_at ⟨u, t, s, l, o, ⟨fr, ev, ct, un, ds, ms, ys⟩, x⟩ m false _ HL.out HIS.out).mono ?_
  rintro e w3 ⟨rfl, hb1⟩
  replace HBX := hide (andthen HBX.out hb1)
  clear hb1 HL s0 s1 s2 s3 s4 s5 s6 s7 s8 s9 s10 s11 s12
  go_wp2_with fail
  go_ret
  exact ⟨rfl, HBX.out⟩
set_option maxRecDepth 100000 in
set_option maxHeartbeats 2000000 in
theorem parts_few (U T : ByteArray) (s l : Int) (O : Option Addr) (on oc : Nat) (fr ev ct un : Int) (D M Y X : Option Addr) (dn dc mn mc yn yc xn xc : Nat) (y : Int) (w : World) (he : EnvE w) (hfew : fewEB dn mn yn U.size T.size on xn = false) :
    Calls Tryz.prog 7 #[.agg #[.string U, .string T, .int .i64 s, .int .i64 l, .slice O on oc, .int .i64 fr, .int .i64 ev, .int .i64 ct, .int .i64 un, .slice D dn dc, .slice M mn mc, .slice Y yn yc, .slice X xn xc], .int .u8 y] w (Ans w (.bool true)) := by
  have HE := hide he
  have HFEW := hide hfew
  have HBX := hide (more (start w) (.cells #[.string U, .string T, .int .i64 s, .int .i64 l, .slice O on oc, .int .i64 fr, .int .i64 ev, .int .i64 ct, .int .i64 un, .slice D dn dc, .slice M mn mc, .slice Y yn yc, .slice X xn xc] 27))
  have hk := blk_new w #[.string U, .string T, .int .i64 s, .int .i64 l, .slice O on oc, .int .i64 fr, .int .i64 ev, .int .i64 ct, .int .i64 un, .slice D dn dc, .slice M mn mc, .slice Y yn yc, .slice X xn xc] 27
  have s0 := hk.cell 0 (by simp)
  have s1 := hk.cell 1 (by simp)
  have s2 := hk.cell 2 (by simp)
  have s3 := hk.cell 3 (by simp)
  have s4 := hk.cell 4 (by simp)
  have s5 := hk.cell 5 (by simp)
  have s6 := hk.cell 6 (by simp)
  have s7 := hk.cell 7 (by simp)
  have s8 := hk.cell 8 (by simp)
  have s9 := hk.cell 9 (by simp)
  have s10 := hk.cell 10 (by simp)
  have s11 := hk.cell 11 (by simp)
  have s12 := hk.cell 12 (by simp)
  simp only [List.getElem_cons_zero, List.getElem_cons_succ] at s0 s1 s2 s3 s4 s5 s6 s7 s8 s9 s10 s11 s12
  clear he hfew hk
  go_enter Tryz.func7, Tryz.ntmps7
  go_wp2_with fail
  refine (known_any _ (HE.out.keep HBX.out)).mono ?_
  rintro e w1 ⟨rfl, hb1⟩
  replace HBX := hide (andthen HBX.out hb1)
  replace s0 := cell_keep hb1 s0
  replace s1 := cell_keep hb1 s1
  replace s2 := cell_keep hb1 s2
  replace s3 := cell_keep hb1 s3
  replace s4 := cell_keep hb1 s4
  replace s5 := cell_keep hb1 s5
  replace s6 := cell_keep hb1 s6
  replace s7 := cell_keep hb1 s7
  replace s8 := cell_keep hb1 s8
  replace s9 := cell_keep hb1 s9
  replace s10 := cell_keep hb1 s10
  replace s11 := cell_keep hb1 s11
  replace s12 := cell_keep hb1 s12
  clear hb1
  go_wp2_with fail
  refine (ans_is (fewE_any U T s l O on oc fr ev ct un D M Y X dn dc mn mc yn yc xn xc _) HFEW.out).mono ?_
  rintro e w2 ⟨rfl, hb1⟩
  replace HBX := hide (andthen HBX.out hb1)
  clear hb1 s0 s1 s2 s3 s4 s5 s6 s7 s8 s9 s10 s11 s12
  go_wp2_with fail
  go_ret
  exact ⟨rfl, HBX.out⟩
/-- EventParts of any event. -/
theorem parts_any (U T : ByteArray) (s l : Int) (O : Option Addr) (on oc : Nat) (fr ev ct un : Int) (D M Y X : Option Addr) (dn dc mn mc yn yc xn xc : Nat) (o : List Int) (ds : List Wd) (ms ys x : List Int) (y : Int) (w : World) (he : EnvE w)
    (h : (on = o.length ∧ o.length ≤ maxLen ∧ RowI w O o) ∧ ((dn = ds.length ∧ ds.length ≤ maxLen ∧ RowD w D ds) ∧ (mn = ms.length ∧ ms.length ≤ maxLen ∧ RowI w M ms) ∧ (yn = ys.length ∧ ys.length ≤ maxLen ∧ RowI w Y ys)) ∧ (xn = x.length ∧ x.length ≤ maxLen ∧ RowI w X x) ∧ U.size ≤ maxLen ∧ T.size ≤ maxLen ∧ (X = none → xc = 0)) (y1 : 0 ≤ y) (y2 : y ≤ 255) :
    Calls Tryz.prog 7 #[.agg #[.string U, .string T, .int .i64 s, .int .i64 l, .slice O on oc, .int .i64 fr, .int .i64 ev, .int .i64 ct, .int .i64 un, .slice D dn dc, .slice M mn mc, .slice Y yn yc, .slice X xn xc], .int .u8 y] w (Ans w (.bool true)) := by
  obtain ⟨⟨rfl, _, ho⟩, ⟨⟨rfl, _, hd⟩, ⟨rfl, _, hm⟩, ⟨rfl, _, hy⟩⟩, ⟨rfl, _, hx⟩, _, _, hz⟩ := h
  cases hf : fewEB ds.length ms.length ys.length U.size T.size o.length x.length with
  | false => exact parts_few U T s l O o.length oc fr ev ct un D M Y X ds.length dc ms.length mc ys.length yc x.length xc y w he hf
  | true =>
    have hb := (fewEB_iff _ _ _ _ _ _ _).1 hf
    have hU : str U.data.toList = U := data_str U
    have hT : str T.data.toList = T := data_str T
    have hul : U.data.toList.length ≤ 40000 := by rw [len_of]; omega
    have htl : T.data.toList.length ≤ 40000 := by rw [len_of]; omega
    generalize U.data.toList = u at *
    generalize T.data.toList = t at *
    subst hU hT
    have hl : EvL w ⟨u, t, s, l, o, ⟨fr, ev, ct, un, ds, ms, ys⟩, x⟩ ⟨O, oc, D, dc, M, mc, Y, yc, X, xc⟩ := ⟨ho, by show o.length ≤ 1000; omega, ⟨hd, rfl, by show ds.length ≤ 1000; omega, hm, rfl, by show ms.length ≤ 1000; omega, hy, rfl, by show ys.length ≤ 1000; omega⟩, hx, by show x.length ≤ 1000; omega, hul, htl⟩
    cases hi : Ev.isE ⟨u, t, s, l, o, ⟨fr, ev, ct, un, ds, ms, ys⟩, x⟩ with
    | false => exact parts_none u t s l o fr ev ct un ds ms ys x ⟨O, oc, D, dc, M, mc, Y, yc, X, xc⟩ y w hl he hf hi
    | true =>
      have h8 : y % 8 = 0 ∨ y % 8 = 1 ∨ y % 8 = 2 ∨ y % 8 = 3 ∨ y % 8 = 4 ∨ y % 8 = 5 ∨ y % 8 = 6 ∨ y % 8 = 7 := by omega
      rcases h8 with h8 | h8 | h8 | h8 | h8 | h8 | h8 | h8
      · exact parts_0 u t s l o fr ev ct un ds ms ys x ⟨O, oc, D, dc, M, mc, Y, yc, X, xc⟩ y w y1 y2 hl he hf hi h8
      · exact parts_1 u t s l o fr ev ct un ds ms ys x ⟨O, oc, D, dc, M, mc, Y, yc, X, xc⟩ y w y1 y2 hl he hf hi h8
      · exact parts_2 u t s l o fr ev ct un ds ms ys x ⟨O, oc, D, dc, M, mc, Y, yc, X, xc⟩ y w y1 y2 hl he hf hi h8
      · exact parts_3 u t s l o fr ev ct un ds ms ys x ⟨O, oc, D, dc, M, mc, Y, yc, X, xc⟩ y w y1 y2 hl he hf hi h8
      · exact parts_4 u t s l o fr ev ct un ds ms ys x ⟨O, oc, D, dc, M, mc, Y, yc, X, xc⟩ y w y1 y2 hl he hf hi h8
      · exact parts_5 u t s l o fr ev ct un ds ms ys x ⟨O, oc, D, dc, M, mc, Y, yc, X, xc⟩ y w y1 y2 hl he hf hi h8
      · exact parts_6 u t s l o fr ev ct un ds ms ys x ⟨O, oc, D, dc, M, mc, Y, yc, X, xc⟩ y w y1 y2 hl he hf hi h8
      · exact parts_7 u t s l o fr ev ct un ds ms ys x ⟨O, oc, D, dc, M, mc, Y, yc, X, xc⟩ y w y1 y2 hl he hz hf hi h8

end Go.Proofs.YtgdjeddelcfgeaaGreatDoor

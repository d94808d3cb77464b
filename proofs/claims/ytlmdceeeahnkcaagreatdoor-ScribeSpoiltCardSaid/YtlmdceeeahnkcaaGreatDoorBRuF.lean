/- Walks of package rule: Same, Is. -/
import Derived.Test.YtlmdceeeahnkcaaGreatDoorBW4
namespace Go.Proofs.YtlmdceeeahnkcaaGreatDoor
open Go.RowKit Rul Go.Sort

theorem lies_once (w : World) : Lies w none 0 none 0 none 0 [] [] [] :=
  ⟨RowD.nil _ _, rfl, by simp, RowI.nil _ _, rfl, by simp, RowI.nil _ _, rfl, by simp⟩
def eq3 (ds ds2 : List Wd) (ms ms2 ys ys2 : List Int) : Bool := decide (ds = ds2) && (decide (ms = ms2) && decide (ys = ys2))
set_option maxHeartbeats 2000000 in
theorem equal_any (D M Y D2 M2 Y2 : Option Addr) (dn dc mn mc yn yc dn2 dc2 mn2 mc2 yn2 yc2 : Nat) (ds : List Wd) (ms ys : List Int) (ds2 : List Wd) (ms2 ys2 : List Int) (w : World) (h : Lies w D dn M mn Y yn ds ms ys) (h2 : Lies w D2 dn2 M2 mn2 Y2 yn2 ds2 ms2 ys2) :
    Calls Tryz.prog 166 #[.agg #[.slice D dn dc, .slice M mn mc, .slice Y yn yc], .agg #[.slice D2 dn2 dc2, .slice M2 mn2 mc2, .slice Y2 yn2 yc2]] w (Ans w (.bool (eq3 ds ds2 ms ms2 ys ys2))) := by
  have HBX := hide (more (more (start w) (.cells #[.slice D dn dc, .slice M mn mc, .slice Y yn yc] 178)) (.cells #[.slice D2 dn2 dc2, .slice M2 mn2 mc2, .slice Y2 yn2 yc2] 178))
  have s1 : ((w.alloc (.cells #[.slice D dn dc, .slice M mn mc, .slice Y yn yc] 178)).alloc (.cells #[.slice D2 dn2 dc2, .slice M2 mn2 mc2, .slice Y2 yn2 yc2] 178)).cell? ⟨w.heap.size, 1, none⟩ = some (.slice M mn mc) := by rw [World.cell?_alloc_past _ _ _ (by simp), World.cell?_alloc_at _ _ _ _ rfl]; rfl
  have s2 : ((w.alloc (.cells #[.slice D dn dc, .slice M mn mc, .slice Y yn yc] 178)).alloc (.cells #[.slice D2 dn2 dc2, .slice M2 mn2 mc2, .slice Y2 yn2 yc2] 178)).cell? ⟨w.heap.size, 2, none⟩ = some (.slice Y yn yc) := by rw [World.cell?_alloc_past _ _ _ (by simp), World.cell?_alloc_at _ _ _ _ rfl]; rfl
  have t1 : ((w.alloc (.cells #[.slice D dn dc, .slice M mn mc, .slice Y yn yc] 178)).alloc (.cells #[.slice D2 dn2 dc2, .slice M2 mn2 mc2, .slice Y2 yn2 yc2] 178)).cell? ⟨w.heap.size + 1, 1, none⟩ = some (.slice M2 mn2 mc2) := by rw [World.cell?_alloc_at _ _ _ _ (by simp)]; rfl
  have t2 : ((w.alloc (.cells #[.slice D dn dc, .slice M mn mc, .slice Y yn yc] 178)).alloc (.cells #[.slice D2 dn2 dc2, .slice M2 mn2 mc2, .slice Y2 yn2 yc2] 178)).cell? ⟨w.heap.size + 1, 2, none⟩ = some (.slice Y2 yn2 yc2) := by rw [World.cell?_alloc_at _ _ _ _ (by simp)]; rfl
  have HL := hide (h.keep HBX.out)
  have HL2 := hide (h2.keep HBX.out)
  clear h h2
  cases h1 : decide (ds = ds2)
  · have e := hide (show eq3 ds ds2 ms ms2 ys ys2 = false by unfold eq3; simp only [h1]; rfl)
    have H1 := hide h1
    clear h1
    go_enter Tryz.func166, Tryz.ntmps166
    go_wp2_with fail
    refine (ans_is (eqD_any D D2 dn dn2 dc dc2 ds ds2 _ HL.out.d HL2.out.d HL.out.dn HL2.out.dn (by have := HL.out.dl; omega) (by have := HL2.out.dl; omega)) H1.out).mono ?_
    rintro e w1 ⟨rfl, hb1⟩
    replace HBX := hide (andthen HBX.out hb1)
    clear hb1 s1 s2 t1 t2
    go_wp2_with fail
    go_ret
    exact ⟨ret_bool (by rw [e.out]), HBX.out⟩
  · cases h2 : decide (ms = ms2)
    · have e := hide (show eq3 ds ds2 ms ms2 ys ys2 = false by unfold eq3; simp only [h1, h2]; rfl)
      have H1 := hide h1
      have H2 := hide h2
      clear h1 h2
      go_enter Tryz.func166, Tryz.ntmps166
      go_wp2_with fail
      refine (ans_is (eqD_any D D2 dn dn2 dc dc2 ds ds2 _ HL.out.d HL2.out.d HL.out.dn HL2.out.dn (by have := HL.out.dl; omega) (by have := HL2.out.dl; omega)) H1.out).mono ?_
      rintro e w1 ⟨rfl, hb1⟩
      replace HBX := hide (andthen HBX.out hb1)
      replace HL := hide (HL.out.keep hb1)
      replace HL2 := hide (HL2.out.keep hb1)
      replace s1 := cell_keep hb1 s1
      replace s2 := cell_keep hb1 s2
      replace t1 := cell_keep hb1 t1
      replace t2 := cell_keep hb1 t2
      clear hb1
      go_wp2_with fail
      refine (ans_is (eqI_any M M2 mn mn2 mc mc2 ms ms2 _ HL.out.m HL2.out.m HL.out.mn HL2.out.mn (by have := HL.out.ml; omega) (by have := HL2.out.ml; omega)) H2.out).mono ?_
      rintro e w1 ⟨rfl, hb1⟩
      replace HBX := hide (andthen HBX.out hb1)
      clear hb1 s1 s2 t1 t2
      go_wp2_with fail
      go_ret
      exact ⟨ret_bool (by rw [e.out]), HBX.out⟩
    · have e := hide (show eq3 ds ds2 ms ms2 ys ys2 = decide (ys = ys2) by unfold eq3; simp only [h1, h2]; rfl)
      have H1 := hide h1
      have H2 := hide h2
      clear h1 h2
      go_enter Tryz.func166, Tryz.ntmps166
      go_wp2_with fail
      refine (ans_is (eqD_any D D2 dn dn2 dc dc2 ds ds2 _ HL.out.d HL2.out.d HL.out.dn HL2.out.dn (by have := HL.out.dl; omega) (by have := HL2.out.dl; omega)) H1.out).mono ?_
      rintro e w1 ⟨rfl, hb1⟩
      replace HBX := hide (andthen HBX.out hb1)
      replace HL := hide (HL.out.keep hb1)
      replace HL2 := hide (HL2.out.keep hb1)
      replace s1 := cell_keep hb1 s1
      replace s2 := cell_keep hb1 s2
      replace t1 := cell_keep hb1 t1
      replace t2 := cell_keep hb1 t2
      clear hb1
      go_wp2_with fail
      refine (ans_is (eqI_any M M2 mn mn2 mc mc2 ms ms2 _ HL.out.m HL2.out.m HL.out.mn HL2.out.mn (by have := HL.out.ml; omega) (by have := HL2.out.ml; omega)) H2.out).mono ?_
      rintro e w1 ⟨rfl, hb1⟩
      replace HBX := hide (andthen HBX.out hb1)
      replace HL := hide (HL.out.keep hb1)
      replace HL2 := hide (HL2.out.keep hb1)
      replace s1 := cell_keep hb1 s1
      replace s2 := cell_keep hb1 s2
      replace t1 := cell_keep hb1 t1
      replace t2 := cell_keep hb1 t2
      clear hb1
      go_wp2_with fail
      refine (eqI_any Y Y2 yn yn2 yc yc2 ys ys2 _ HL.out.y HL2.out.y HL.out.yn HL2.out.yn (by have := HL.out.yl; omega) (by have := HL2.out.yl; omega)).mono ?_
      rintro e w1 ⟨rfl, hb1⟩
      replace HBX := hide (andthen HBX.out hb1)
      clear hb1 s1 s2 t1 t2
      go_wp2_with fail
      go_ret
      exact ⟨ret_bool (by rw [e.out]), HBX.out⟩

theorem recB_is (fr ev ct un : Int) (ds : List Wd) (ms ys : List Int) : recB ⟨fr, ev, ct, un, ds, ms, ys⟩ = (rngB fr ev ct un && (welB ds ms ys && sutB fr ds ms ys)) := rfl
set_option maxHeartbeats 2000000 in
theorem recurs_any (fr ev ct un : Int) (D M Y : Option Addr) (dn dc mn mc yn yc : Nat) (ds : List Wd) (ms ys : List Int) (w : World) (h : Lies w D dn M mn Y yn ds ms ys) :
    Calls Tryz.prog 142 #[.agg #[.int .i64 fr, .int .i64 ev, .int .i64 ct, .int .i64 un, .slice D dn dc, .slice M mn mc, .slice Y yn yc]] w (Ans w (.bool (recB ⟨fr, ev, ct, un, ds, ms, ys⟩))) := by
  have HBX := hide (more (start w) (.cells #[.int .i64 fr, .int .i64 ev, .int .i64 ct, .int .i64 un, .slice D dn dc, .slice M mn mc, .slice Y yn yc] 180))
  have s0 : (w.alloc (.cells #[.int .i64 fr, .int .i64 ev, .int .i64 ct, .int .i64 un, .slice D dn dc, .slice M mn mc, .slice Y yn yc] 180)).cell? ⟨w.heap.size, 0, none⟩ = some (.int .i64 fr) := by rw [World.cell?_alloc_at _ _ _ _ rfl]; rfl
  have s1 : (w.alloc (.cells #[.int .i64 fr, .int .i64 ev, .int .i64 ct, .int .i64 un, .slice D dn dc, .slice M mn mc, .slice Y yn yc] 180)).cell? ⟨w.heap.size, 1, none⟩ = some (.int .i64 ev) := by rw [World.cell?_alloc_at _ _ _ _ rfl]; rfl
  have s2 : (w.alloc (.cells #[.int .i64 fr, .int .i64 ev, .int .i64 ct, .int .i64 un, .slice D dn dc, .slice M mn mc, .slice Y yn yc] 180)).cell? ⟨w.heap.size, 2, none⟩ = some (.int .i64 ct) := by rw [World.cell?_alloc_at _ _ _ _ rfl]; rfl
  have s3 : (w.alloc (.cells #[.int .i64 fr, .int .i64 ev, .int .i64 ct, .int .i64 un, .slice D dn dc, .slice M mn mc, .slice Y yn yc] 180)).cell? ⟨w.heap.size, 3, none⟩ = some (.int .i64 un) := by rw [World.cell?_alloc_at _ _ _ _ rfl]; rfl
  have s4 : (w.alloc (.cells #[.int .i64 fr, .int .i64 ev, .int .i64 ct, .int .i64 un, .slice D dn dc, .slice M mn mc, .slice Y yn yc] 180)).cell? ⟨w.heap.size, 4, none⟩ = some (.slice D dn dc) := by rw [World.cell?_alloc_at _ _ _ _ rfl]; rfl
  have s5 : (w.alloc (.cells #[.int .i64 fr, .int .i64 ev, .int .i64 ct, .int .i64 un, .slice D dn dc, .slice M mn mc, .slice Y yn yc] 180)).cell? ⟨w.heap.size, 5, none⟩ = some (.slice M mn mc) := by rw [World.cell?_alloc_at _ _ _ _ rfl]; rfl
  have s6 : (w.alloc (.cells #[.int .i64 fr, .int .i64 ev, .int .i64 ct, .int .i64 un, .slice D dn dc, .slice M mn mc, .slice Y yn yc] 180)).cell? ⟨w.heap.size, 6, none⟩ = some (.slice Y yn yc) := by rw [World.cell?_alloc_at _ _ _ _ rfl]; rfl
  have HL := hide (h.keep HBX.out)
  clear h
  cases h1 : rngB fr ev ct un
  · have e := hide (show recB ⟨fr, ev, ct, un, ds, ms, ys⟩ = false by rw [recB_is]; simp only [h1]; rfl)
    have H1 := hide h1
    clear h1
    go_enter Tryz.func142, Tryz.ntmps142
    go_wp2_with fail
    refine (ans_is (inRange_any fr ev ct un _) H1.out).mono ?_
    rintro e w1 ⟨rfl, hb1⟩
    replace HBX := hide (andthen HBX.out hb1)
    clear hb1 s0 s1 s2 s3 s4 s5 s6
    go_wp2_with fail
    go_ret
    exact ⟨ret_bool (by rw [e.out]), HBX.out⟩
  · cases h2 : welB ds ms ys
    · have e := hide (show recB ⟨fr, ev, ct, un, ds, ms, ys⟩ = false by rw [recB_is]; simp only [h1, h2]; rfl)
      have H1 := hide h1
      have H2 := hide h2
      clear h1 h2
      go_enter Tryz.func142, Tryz.ntmps142
      go_wp2_with fail
      refine (ans_is (inRange_any fr ev ct un _) H1.out).mono ?_
      rintro e w1 ⟨rfl, hb1⟩
      replace HBX := hide (andthen HBX.out hb1)
      replace HL := hide (HL.out.keep hb1)
      replace s0 := cell_keep hb1 s0
      replace s1 := cell_keep hb1 s1
      replace s2 := cell_keep hb1 s2
      replace s3 := cell_keep hb1 s3
      replace s4 := cell_keep hb1 s4
      replace s5 := cell_keep hb1 s5
      replace s6 := cell_keep hb1 s6
      clear hb1
      go_wp2_with fail
      refine (ans_is (well_any D M Y dn dc mn mc yn yc ds ms ys _ HL.out) H2.out).mono ?_
      rintro e w1 ⟨rfl, hb1⟩
      replace HBX := hide (andthen HBX.out hb1)
      clear hb1 s0 s1 s2 s3 s4 s5 s6
      go_wp2_with fail
      go_ret
      exact ⟨ret_bool (by rw [e.out]), HBX.out⟩
    · have e := hide (show recB ⟨fr, ev, ct, un, ds, ms, ys⟩ = sutB fr ds ms ys by rw [recB_is]; simp only [h1, h2]; rfl)
      have H1 := hide h1
      have H2 := hide h2
      clear h1 h2
      go_enter Tryz.func142, Tryz.ntmps142
      go_wp2_with fail
      refine (ans_is (inRange_any fr ev ct un _) H1.out).mono ?_
      rintro e w1 ⟨rfl, hb1⟩
      replace HBX := hide (andthen HBX.out hb1)
      replace HL := hide (HL.out.keep hb1)
      replace s0 := cell_keep hb1 s0
      replace s1 := cell_keep hb1 s1
      replace s2 := cell_keep hb1 s2
      replace s3 := cell_keep hb1 s3
      replace s4 := cell_keep hb1 s4
      replace s5 := cell_keep hb1 s5
      replace s6 := cell_keep hb1 s6
      clear hb1
      go_wp2_with fail
      refine (ans_is (well_any D M Y dn dc mn mc yn yc ds ms ys _ HL.out) H2.out).mono ?_
      rintro e w1 ⟨rfl, hb1⟩
      replace HBX := hide (andthen HBX.out hb1)
      replace HL := hide (HL.out.keep hb1)
      replace s0 := cell_keep hb1 s0
      replace s1 := cell_keep hb1 s1
      replace s2 := cell_keep hb1 s2
      replace s3 := cell_keep hb1 s3
      replace s4 := cell_keep hb1 s4
      replace s5 := cell_keep hb1 s5
      replace s6 := cell_keep hb1 s6
      clear hb1
      go_wp2_with fail
      refine (suited_any fr ev ct un D M Y dn dc mn mc yn yc ds ms ys _ HL.out).mono ?_
      rintro e w1 ⟨rfl, hb1⟩
      replace HBX := hide (andthen HBX.out hb1)
      clear hb1 s0 s1 s2 s3 s4 s5 s6
      go_wp2_with fail
      go_ret
      exact ⟨ret_bool (by rw [e.out]), HBX.out⟩

theorem sameB_is (fr ev ct un fr2 ev2 ct2 un2 : Int) (ds : List Wd) (ms ys : List Int) (ds2 : List Wd) (ms2 ys2 : List Int) : sameB ⟨fr, ev, ct, un, ds, ms, ys⟩ ⟨fr2, ev2, ct2, un2, ds2, ms2, ys2⟩ = ((fr == fr2) && ((ev == ev2) && ((ct == ct2) && (un == un2))) && eq3 ds ds2 ms ms2 ys ys2) := by
  show (decide (fr = fr2 ∧ ev = ev2 ∧ ct = ct2 ∧ un = un2) && eq3 ds ds2 ms ms2 ys ys2) = _
  congr 1
  rw [Bool.eq_iff_iff]; simp
set_option maxHeartbeats 2000000 in
theorem psame_any (fr ev ct un : Int) (D M Y : Option Addr) (dn dc mn mc yn yc : Nat) (fr2 ev2 ct2 un2 : Int) (D2 M2 Y2 : Option Addr) (dn2 dc2 mn2 mc2 yn2 yc2 : Nat) (ds : List Wd) (ms ys : List Int) (ds2 : List Wd) (ms2 ys2 : List Int) (w : World) (h : Lies w D dn M mn Y yn ds ms ys) (h2 : Lies w D2 dn2 M2 mn2 Y2 yn2 ds2 ms2 ys2) :
    Calls Tryz.prog 143 #[.agg #[.int .i64 fr, .int .i64 ev, .int .i64 ct, .int .i64 un, .slice D dn dc, .slice M mn mc, .slice Y yn yc], .agg #[.int .i64 fr2, .int .i64 ev2, .int .i64 ct2, .int .i64 un2, .slice D2 dn2 dc2, .slice M2 mn2 mc2, .slice Y2 yn2 yc2]] w (Ans w (.bool (sameB ⟨fr, ev, ct, un, ds, ms, ys⟩ ⟨fr2, ev2, ct2, un2, ds2, ms2, ys2⟩))) := by
  have HBX := hide (more (more (start w) (.cells #[.int .i64 fr, .int .i64 ev, .int .i64 ct, .int .i64 un, .slice D dn dc, .slice M mn mc, .slice Y yn yc] 180)) (.cells #[.int .i64 fr2, .int .i64 ev2, .int .i64 ct2, .int .i64 un2, .slice D2 dn2 dc2, .slice M2 mn2 mc2, .slice Y2 yn2 yc2] 180))
  have HL := hide (h.keep HBX.out)
  have HL2 := hide (h2.keep HBX.out)
  clear h h2
  cases h1 : (fr == fr2)
  · have e := hide (show sameB ⟨fr, ev, ct, un, ds, ms, ys⟩ ⟨fr2, ev2, ct2, un2, ds2, ms2, ys2⟩ = false by rw [sameB_is]; simp only [h1]; rfl)
    clear HL HL2
    go_enter Tryz.func143, Tryz.ntmps143
    go_wp2_with fail
    go_ret
    exact ⟨ret_bool (by rw [e.out]), HBX.out⟩
  · cases h2 : (ev == ev2)
    · have e := hide (show sameB ⟨fr, ev, ct, un, ds, ms, ys⟩ ⟨fr2, ev2, ct2, un2, ds2, ms2, ys2⟩ = false by rw [sameB_is]; simp only [h1, h2]; rfl)
      clear HL HL2
      go_enter Tryz.func143, Tryz.ntmps143
      go_wp2_with fail
      go_ret
      exact ⟨ret_bool (by rw [e.out]), HBX.out⟩
    · cases h3 : (ct == ct2)
      · have e := hide (show sameB ⟨fr, ev, ct, un, ds, ms, ys⟩ ⟨fr2, ev2, ct2, un2, ds2, ms2, ys2⟩ = false by rw [sameB_is]; simp only [h1, h2, h3]; rfl)
        clear HL HL2
        go_enter Tryz.func143, Tryz.ntmps143
        go_wp2_with fail
        go_ret
        exact ⟨ret_bool (by rw [e.out]), HBX.out⟩
      · cases h4 : (un == un2)
        · have e := hide (show sameB ⟨fr, ev, ct, un, ds, ms, ys⟩ ⟨fr2, ev2, ct2, un2, ds2, ms2, ys2⟩ = false by rw [sameB_is]; simp only [h1, h2, h3, h4]; rfl)
          clear HL HL2
          go_enter Tryz.func143, Tryz.ntmps143
          go_wp2_with fail
          go_ret
          exact ⟨ret_bool (by rw [e.out]), HBX.out⟩
        · have e := hide (show sameB ⟨fr, ev, ct, un, ds, ms, ys⟩ ⟨fr2, ev2, ct2, un2, ds2, ms2, ys2⟩ = eq3 ds ds2 ms ms2 ys ys2 by rw [sameB_is]; simp only [h1, h2, h3, h4]; rfl)
          go_enter Tryz.func143, Tryz.ntmps143
          go_wp2_with fail
          refine (equal_any D M Y D2 M2 Y2 dn dc mn mc yn yc dn2 dc2 mn2 mc2 yn2 yc2 ds ms ys ds2 ms2 ys2 _ HL.out HL2.out).mono ?_
          rintro e w1 ⟨rfl, hb1⟩
          replace HBX := hide (andthen HBX.out hb1)
          clear hb1
          go_wp2_with fail
          go_ret
          exact ⟨ret_bool (by rw [e.out]), HBX.out⟩

set_option maxRecDepth 100000 in
set_option maxHeartbeats 2000000 in
theorem same_any (fr ev ct un : Int) (D M Y : Option Addr) (dn dc mn mc yn yc : Nat) (fr2 ev2 ct2 un2 : Int) (D2 M2 Y2 : Option Addr) (dn2 dc2 mn2 mc2 yn2 yc2 : Nat) (ds : List Wd) (ms ys : List Int) (ds2 : List Wd) (ms2 ys2 : List Int) (w : World) (h : Lies w D dn M mn Y yn ds ms ys) (h2 : Lies w D2 dn2 M2 mn2 Y2 yn2 ds2 ms2 ys2) :
    Calls Tryz.prog 109 #[.agg #[.int .i64 fr, .int .i64 ev, .int .i64 ct, .int .i64 un, .slice D dn dc, .slice M mn mc, .slice Y yn yc], .agg #[.int .i64 fr2, .int .i64 ev2, .int .i64 ct2, .int .i64 un2, .slice D2 dn2 dc2, .slice M2 mn2 mc2, .slice Y2 yn2 yc2]] w (Ans w (.bool (sameB ⟨fr, ev, ct, un, ds, ms, ys⟩ ⟨fr2, ev2, ct2, un2, ds2, ms2, ys2⟩))) := by
  have HBX := hide (more (more (start w) (.cells #[.int .i64 fr, .int .i64 ev, .int .i64 ct, .int .i64 un, .slice D dn dc, .slice M mn mc, .slice Y yn yc] 27)) (.cells #[.int .i64 fr2, .int .i64 ev2, .int .i64 ct2, .int .i64 un2, .slice D2 dn2 dc2, .slice M2 mn2 mc2, .slice Y2 yn2 yc2] 27))
  have HL := hide (h.keep HBX.out)
  have HL2 := hide (h2.keep HBX.out)
  have s0 : ((w.alloc (.cells #[.int .i64 fr, .int .i64 ev, .int .i64 ct, .int .i64 un, .slice D dn dc, .slice M mn mc, .slice Y yn yc] 27)).alloc (.cells #[.int .i64 fr2, .int .i64 ev2, .int .i64 ct2, .int .i64 un2, .slice D2 dn2 dc2, .slice M2 mn2 mc2, .slice Y2 yn2 yc2] 27)).cell? ⟨w.heap.size, 0, none⟩ = some (.int .i64 fr) := by rw [World.cell?_alloc_past _ _ _ (by simp), World.cell?_alloc_at _ _ _ _ rfl]; rfl
  have s1 : ((w.alloc (.cells #[.int .i64 fr, .int .i64 ev, .int .i64 ct, .int .i64 un, .slice D dn dc, .slice M mn mc, .slice Y yn yc] 27)).alloc (.cells #[.int .i64 fr2, .int .i64 ev2, .int .i64 ct2, .int .i64 un2, .slice D2 dn2 dc2, .slice M2 mn2 mc2, .slice Y2 yn2 yc2] 27)).cell? ⟨w.heap.size, 1, none⟩ = some (.int .i64 ev) := by rw [World.cell?_alloc_past _ _ _ (by simp), World.cell?_alloc_at _ _ _ _ rfl]; rfl
  have s2 : ((w.alloc (.cells #[.int .i64 fr, .int .i64 ev, .int .i64 ct, .int .i64 un, .slice D dn dc, .slice M mn mc, .slice Y yn yc] 27)).alloc (.cells #[.int .i64 fr2, .int .i64 ev2, .int .i64 ct2, .int .i64 un2, .slice D2 dn2 dc2, .slice M2 mn2 mc2, .slice Y2 yn2 yc2] 27)).cell? ⟨w.heap.size, 2, none⟩ = some (.int .i64 ct) := by rw [World.cell?_alloc_past _ _ _ (by simp), World.cell?_alloc_at _ _ _ _ rfl]; rfl
  have s3 : ((w.alloc (.cells #[.int .i64 fr, .int .i64 ev, .int .i64 ct, .int .i64 un, .slice D dn dc, .slice M mn mc, .slice Y yn yc] 27)).alloc (.cells #[.int .i64 fr2, .int .i64 ev2, .int .i64 ct2, .int .i64 un2, .slice D2 dn2 dc2, .slice M2 mn2 mc2, .slice Y2 yn2 yc2] 27)).cell? ⟨w.heap.size, 3, none⟩ = some (.int .i64 un) := by rw [World.cell?_alloc_past _ _ _ (by simp), World.cell?_alloc_at _ _ _ _ rfl]; rfl
  have s4 : ((w.alloc (.cells #[.int .i64 fr, .int .i64 ev, .int .i64 ct, .int .i64 un, .slice D dn dc, .slice M mn mc, .slice Y yn yc] 27)).alloc (.cells #[.int .i64 fr2, .int .i64 ev2, .int .i64 ct2, .int .i64 un2, .slice D2 dn2 dc2, .slice M2 mn2 mc2, .slice Y2 yn2 yc2] 27)).cell? ⟨w.heap.size, 4, none⟩ = some (.slice D dn dc) := by rw [World.cell?_alloc_past _ _ _ (by simp), World.cell?_alloc_at _ _ _ _ rfl]; rfl
  have s5 : ((w.alloc (.cells #[.int .i64 fr, .int .i64 ev, .int .i64 ct, .int .i64 un, .slice D dn dc, .slice M mn mc, .slice Y yn yc] 27)).alloc (.cells #[.int .i64 fr2, .int .i64 ev2, .int .i64 ct2, .int .i64 un2, .slice D2 dn2 dc2, .slice M2 mn2 mc2, .slice Y2 yn2 yc2] 27)).cell? ⟨w.heap.size, 5, none⟩ = some (.slice M mn mc) := by rw [World.cell?_alloc_past _ _ _ (by simp), World.cell?_alloc_at _ _ _ _ rfl]; rfl
  have s6 : ((w.alloc (.cells #[.int .i64 fr, .int .i64 ev, .int .i64 ct, .int .i64 un, .slice D dn dc, .slice M mn mc, .slice Y yn yc] 27)).alloc (.cells #[.int .i64 fr2, .int .i64 ev2, .int .i64 ct2, .int .i64 un2, .slice D2 dn2 dc2, .slice M2 mn2 mc2, .slice Y2 yn2 yc2] 27)).cell? ⟨w.heap.size, 6, none⟩ = some (.slice Y yn yc) := by rw [World.cell?_alloc_past _ _ _ (by simp), World.cell?_alloc_at _ _ _ _ rfl]; rfl
  have t0 : ((w.alloc (.cells #[.int .i64 fr, .int .i64 ev, .int .i64 ct, .int .i64 un, .slice D dn dc, .slice M mn mc, .slice Y yn yc] 27)).alloc (.cells #[.int .i64 fr2, .int .i64 ev2, .int .i64 ct2, .int .i64 un2, .slice D2 dn2 dc2, .slice M2 mn2 mc2, .slice Y2 yn2 yc2] 27)).cell? ⟨w.heap.size + 1, 0, none⟩ = some (.int .i64 fr2) := by rw [World.cell?_alloc_at _ _ _ _ (by simp)]; rfl
  have t1 : ((w.alloc (.cells #[.int .i64 fr, .int .i64 ev, .int .i64 ct, .int .i64 un, .slice D dn dc, .slice M mn mc, .slice Y yn yc] 27)).alloc (.cells #[.int .i64 fr2, .int .i64 ev2, .int .i64 ct2, .int .i64 un2, .slice D2 dn2 dc2, .slice M2 mn2 mc2, .slice Y2 yn2 yc2] 27)).cell? ⟨w.heap.size + 1, 1, none⟩ = some (.int .i64 ev2) := by rw [World.cell?_alloc_at _ _ _ _ (by simp)]; rfl
  have t2 : ((w.alloc (.cells #[.int .i64 fr, .int .i64 ev, .int .i64 ct, .int .i64 un, .slice D dn dc, .slice M mn mc, .slice Y yn yc] 27)).alloc (.cells #[.int .i64 fr2, .int .i64 ev2, .int .i64 ct2, .int .i64 un2, .slice D2 dn2 dc2, .slice M2 mn2 mc2, .slice Y2 yn2 yc2] 27)).cell? ⟨w.heap.size + 1, 2, none⟩ = some (.int .i64 ct2) := by rw [World.cell?_alloc_at _ _ _ _ (by simp)]; rfl
  have t3 : ((w.alloc (.cells #[.int .i64 fr, .int .i64 ev, .int .i64 ct, .int .i64 un, .slice D dn dc, .slice M mn mc, .slice Y yn yc] 27)).alloc (.cells #[.int .i64 fr2, .int .i64 ev2, .int .i64 ct2, .int .i64 un2, .slice D2 dn2 dc2, .slice M2 mn2 mc2, .slice Y2 yn2 yc2] 27)).cell? ⟨w.heap.size + 1, 3, none⟩ = some (.int .i64 un2) := by rw [World.cell?_alloc_at _ _ _ _ (by simp)]; rfl
  have t4 : ((w.alloc (.cells #[.int .i64 fr, .int .i64 ev, .int .i64 ct, .int .i64 un, .slice D dn dc, .slice M mn mc, .slice Y yn yc] 27)).alloc (.cells #[.int .i64 fr2, .int .i64 ev2, .int .i64 ct2, .int .i64 un2, .slice D2 dn2 dc2, .slice M2 mn2 mc2, .slice Y2 yn2 yc2] 27)).cell? ⟨w.heap.size + 1, 4, none⟩ = some (.slice D2 dn2 dc2) := by rw [World.cell?_alloc_at _ _ _ _ (by simp)]; rfl
  have t5 : ((w.alloc (.cells #[.int .i64 fr, .int .i64 ev, .int .i64 ct, .int .i64 un, .slice D dn dc, .slice M mn mc, .slice Y yn yc] 27)).alloc (.cells #[.int .i64 fr2, .int .i64 ev2, .int .i64 ct2, .int .i64 un2, .slice D2 dn2 dc2, .slice M2 mn2 mc2, .slice Y2 yn2 yc2] 27)).cell? ⟨w.heap.size + 1, 5, none⟩ = some (.slice M2 mn2 mc2) := by rw [World.cell?_alloc_at _ _ _ _ (by simp)]; rfl
  have t6 : ((w.alloc (.cells #[.int .i64 fr, .int .i64 ev, .int .i64 ct, .int .i64 un, .slice D dn dc, .slice M mn mc, .slice Y yn yc] 27)).alloc (.cells #[.int .i64 fr2, .int .i64 ev2, .int .i64 ct2, .int .i64 un2, .slice D2 dn2 dc2, .slice M2 mn2 mc2, .slice Y2 yn2 yc2] 27)).cell? ⟨w.heap.size + 1, 6, none⟩ = some (.slice Y2 yn2 yc2) := by rw [World.cell?_alloc_at _ _ _ _ (by simp)]; rfl
  clear h h2
  go_enter Tryz.func109, Tryz.ntmps109
  go_wp2_with fail
  generalize ((w.alloc (.cells #[.int .i64 fr, .int .i64 ev, .int .i64 ct, .int .i64 un, .slice D dn dc, .slice M mn mc, .slice Y yn yc] 27)).alloc (.cells #[.int .i64 fr2, .int .i64 ev2, .int .i64 ct2, .int .i64 un2, .slice D2 dn2 dc2, .slice M2 mn2 mc2, .slice Y2 yn2 yc2] 27)) = W at *
  have fs0 := fun d os => cell_regrown s0 d os
  have fs1 := fun d os => cell_regrown s1 d os
  have fs2 := fun d os => cell_regrown s2 d os
  have fs3 := fun d os => cell_regrown s3 d os
  have fs4 := fun d os => cell_regrown s4 d os
  have fs5 := fun d os => cell_regrown s5 d os
  have fs6 := fun d os => cell_regrown s6 d os
  have ft0 := fun d os => cell_regrown t0 d os
  have ft1 := fun d os => cell_regrown t1 d os
  have ft2 := fun d os => cell_regrown t2 d os
  have ft3 := fun d os => cell_regrown t3 d os
  have ft4 := fun d os => cell_regrown t4 d os
  have ft5 := fun d os => cell_regrown t5 d os
  have ft6 := fun d os => cell_regrown t6 d os
  have L1 := fun d os => Lies.keep HL.out (below_regrown W d os)
  have L2 := fun d os => Lies.keep HL2.out (below_regrown W d os)
  replace L1 := hide L1
  replace L2 := hide L2
  clear HL HL2 s0 s1 s2 s3 s4 s5 s6 t0 t1 t2 t3 t4 t5 t6
  refine wp_region_quiet_below (by kernel_rfl) (by kernel_rfl) ?_
  repeat (first | go_big_quiet_step ((first | (go_at_call 141; exact Calls.regrown_of (partsOf_any _ _ _ _ _ _ _ _ _ _ _ _ _ _)) | (go_at_call 143; exact Calls.regrown_of (psame_any fr ev ct un D M Y dn dc mn mc yn yc fr2 ev2 ct2 un2 D2 M2 Y2 dn2 dc2 mn2 mc2 yn2 yc2 ds ms ys ds2 ms2 ys2 _ (L1.out _ _) (L2.out _ _))))) | quiet_step ((first | (go_at_call 141; exact Calls.regrown_of (partsOf_any _ _ _ _ _ _ _ _ _ _ _ _ _ _)) | (go_at_call 143; exact Calls.regrown_of (psame_any fr ev ct un D M Y dn dc mn mc yn yc fr2 ev2 ct2 un2 D2 M2 Y2 dn2 dc2 mn2 mc2 yn2 yc2 ds ms ys ds2 ms2 ys2 _ (L1.out _ _) (L2.out _ _))))))
  refine wpQuiet_nil ?_
  intro _ hw'
  obtain ⟨⟨nq, osq⟩, hw''⟩ := hw'
  subst hw''
  replace HBX := hide (andthen HBX.out (below_regrown W nq osq))
  go_wp2_with fail
  go_ret
  exact ⟨rfl, HBX.out⟩

set_option maxRecDepth 100000 in
set_option maxHeartbeats 2000000 in
theorem ruleIs_any (fr ev ct un : Int) (D M Y : Option Addr) (dn dc mn mc yn yc : Nat) (ds : List Wd) (ms ys : List Int) (w : World) (h : Lies w D dn M mn Y yn ds ms ys) :
    Calls Tryz.prog 107 #[.agg #[.int .i64 fr, .int .i64 ev, .int .i64 ct, .int .i64 un, .slice D dn dc, .slice M mn mc, .slice Y yn yc]] w (Ans w (.bool (isB ⟨fr, ev, ct, un, ds, ms, ys⟩))) := by
  have HBX := hide (more (start w) (.cells #[.int .i64 fr, .int .i64 ev, .int .i64 ct, .int .i64 un, .slice D dn dc, .slice M mn mc, .slice Y yn yc] 27))
  have HL := hide (h.keep HBX.out)
  have s0 : (w.alloc (.cells #[.int .i64 fr, .int .i64 ev, .int .i64 ct, .int .i64 un, .slice D dn dc, .slice M mn mc, .slice Y yn yc] 27)).cell? ⟨w.heap.size, 0, none⟩ = some (.int .i64 fr) := by rw [World.cell?_alloc_at _ _ _ _ rfl]; rfl
  have s1 : (w.alloc (.cells #[.int .i64 fr, .int .i64 ev, .int .i64 ct, .int .i64 un, .slice D dn dc, .slice M mn mc, .slice Y yn yc] 27)).cell? ⟨w.heap.size, 1, none⟩ = some (.int .i64 ev) := by rw [World.cell?_alloc_at _ _ _ _ rfl]; rfl
  have s2 : (w.alloc (.cells #[.int .i64 fr, .int .i64 ev, .int .i64 ct, .int .i64 un, .slice D dn dc, .slice M mn mc, .slice Y yn yc] 27)).cell? ⟨w.heap.size, 2, none⟩ = some (.int .i64 ct) := by rw [World.cell?_alloc_at _ _ _ _ rfl]; rfl
  have s3 : (w.alloc (.cells #[.int .i64 fr, .int .i64 ev, .int .i64 ct, .int .i64 un, .slice D dn dc, .slice M mn mc, .slice Y yn yc] 27)).cell? ⟨w.heap.size, 3, none⟩ = some (.int .i64 un) := by rw [World.cell?_alloc_at _ _ _ _ rfl]; rfl
  have s4 : (w.alloc (.cells #[.int .i64 fr, .int .i64 ev, .int .i64 ct, .int .i64 un, .slice D dn dc, .slice M mn mc, .slice Y yn yc] 27)).cell? ⟨w.heap.size, 4, none⟩ = some (.slice D dn dc) := by rw [World.cell?_alloc_at _ _ _ _ rfl]; rfl
  have s5 : (w.alloc (.cells #[.int .i64 fr, .int .i64 ev, .int .i64 ct, .int .i64 un, .slice D dn dc, .slice M mn mc, .slice Y yn yc] 27)).cell? ⟨w.heap.size, 5, none⟩ = some (.slice M mn mc) := by rw [World.cell?_alloc_at _ _ _ _ rfl]; rfl
  have s6 : (w.alloc (.cells #[.int .i64 fr, .int .i64 ev, .int .i64 ct, .int .i64 un, .slice D dn dc, .slice M mn mc, .slice Y yn yc] 27)).cell? ⟨w.heap.size, 6, none⟩ = some (.slice Y yn yc) := by rw [World.cell?_alloc_at _ _ _ _ rfl]; rfl
  clear h
  cases hs : sameB ⟨fr, ev, ct, un, ds, ms, ys⟩ ⟨0, 0, 0, -1, [], [], []⟩
  · have e := hide (show isB ⟨fr, ev, ct, un, ds, ms, ys⟩ = recB ⟨fr, ev, ct, un, ds, ms, ys⟩ by unfold isB; rw [show sameB ⟨fr, ev, ct, un, ds, ms, ys⟩ once = false from hs]; rfl)
    have HS := hide hs
    clear hs
    go_enter Tryz.func107, Tryz.ntmps107
    go_wp2_with fail
    generalize (w.alloc (.cells #[.int .i64 fr, .int .i64 ev, .int .i64 ct, .int .i64 un, .slice D dn dc, .slice M mn mc, .slice Y yn yc] 27)) = W at *
    have fs0 := fun d os => cell_regrown s0 d os
    have fs1 := fun d os => cell_regrown s1 d os
    have fs2 := fun d os => cell_regrown s2 d os
    have fs3 := fun d os => cell_regrown s3 d os
    have fs4 := fun d os => cell_regrown s4 d os
    have fs5 := fun d os => cell_regrown s5 d os
    have fs6 := fun d os => cell_regrown s6 d os
    have L1 := hide (fun d os => Lies.keep HL.out (below_regrown W d os))
    clear HL s0 s1 s2 s3 s4 s5 s6
    refine wp_region_quiet_below (by kernel_rfl) (by kernel_rfl) ?_
    repeat (first | go_big_quiet_step ((first | (go_at_call 110; exact Calls.regrown_of (once_any _)) | (go_at_call 109; exact Calls.regrown_of (ans_is (same_any fr ev ct un D M Y dn dc mn mc yn yc 0 0 0 (-1) none none none 0 0 0 0 0 0 ds ms ys [] [] [] _ (L1.out _ _) (lies_once _)) HS.out)) | (go_at_call 141; exact Calls.regrown_of (partsOf_any _ _ _ _ _ _ _ _ _ _ _ _ _ _)) | (go_at_call 142; exact Calls.regrown_of (recurs_any fr ev ct un D M Y dn dc mn mc yn yc ds ms ys _ (L1.out _ _))))) | quiet_step ((first | (go_at_call 110; exact Calls.regrown_of (once_any _)) | (go_at_call 109; exact Calls.regrown_of (ans_is (same_any fr ev ct un D M Y dn dc mn mc yn yc 0 0 0 (-1) none none none 0 0 0 0 0 0 ds ms ys [] [] [] _ (L1.out _ _) (lies_once _)) HS.out)) | (go_at_call 141; exact Calls.regrown_of (partsOf_any _ _ _ _ _ _ _ _ _ _ _ _ _ _)) | (go_at_call 142; exact Calls.regrown_of (recurs_any fr ev ct un D M Y dn dc mn mc yn yc ds ms ys _ (L1.out _ _))))))
    refine wpQuiet_nil ?_
    intro _ hw'
    obtain ⟨⟨nq, osq⟩, hw''⟩ := hw'
    subst hw''
    replace HBX := hide (andthen HBX.out (below_regrown W nq osq))
    go_wp2_with fail
    go_ret
    exact ⟨ret_bool (by rw [e.out]), HBX.out⟩
  · have e := hide (show isB ⟨fr, ev, ct, un, ds, ms, ys⟩ = true by unfold isB; rw [show sameB ⟨fr, ev, ct, un, ds, ms, ys⟩ once = true from hs]; rfl)
    have HS := hide hs
    clear hs
    go_enter Tryz.func107, Tryz.ntmps107
    go_wp2_with fail
    generalize (w.alloc (.cells #[.int .i64 fr, .int .i64 ev, .int .i64 ct, .int .i64 un, .slice D dn dc, .slice M mn mc, .slice Y yn yc] 27)) = W at *
    have fs0 := fun d os => cell_regrown s0 d os
    have fs1 := fun d os => cell_regrown s1 d os
    have fs2 := fun d os => cell_regrown s2 d os
    have fs3 := fun d os => cell_regrown s3 d os
    have fs4 := fun d os => cell_regrown s4 d os
    have fs5 := fun d os => cell_regrown s5 d os
    have fs6 := fun d os => cell_regrown s6 d os
    have L1 := hide (fun d os => Lies.keep HL.out (below_regrown W d os))
    clear HL s0 s1 s2 s3 s4 s5 s6
    refine wp_region_quiet_below (by kernel_rfl) (by kernel_rfl) ?_
    repeat (first | go_big_quiet_step ((first | (go_at_call 110; exact Calls.regrown_of (once_any _)) | (go_at_call 109; exact Calls.regrown_of (ans_is (same_any fr ev ct un D M Y dn dc mn mc yn yc 0 0 0 (-1) none none none 0 0 0 0 0 0 ds ms ys [] [] [] _ (L1.out _ _) (lies_once _)) HS.out)))) | quiet_step ((first | (go_at_call 110; exact Calls.regrown_of (once_any _)) | (go_at_call 109; exact Calls.regrown_of (ans_is (same_any fr ev ct un D M Y dn dc mn mc yn yc 0 0 0 (-1) none none none 0 0 0 0 0 0 ds ms ys [] [] [] _ (L1.out _ _) (lies_once _)) HS.out)))))
    refine wpQuiet_nil ?_
    intro _ hw'
    obtain ⟨⟨nq, osq⟩, hw''⟩ := hw'
    subst hw''
    replace HBX := hide (andthen HBX.out (below_regrown W nq osq))
    go_wp2_with fail
    go_ret
    exact ⟨ret_bool (by rw [e.out]), HBX.out⟩

end Go.Proofs.YtlmdceeeahnkcaaGreatDoor

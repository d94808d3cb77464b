/- RuT; RuU of the recipes, what is needed of them. -/
import Derived.Test.YtlmdceeeahnkcaaGreatDoorBW7
namespace Go.Proofs.YtlmdceeeahnkcaaGreatDoor.R
open Go.RowKit Rul Go.Sort

set_option maxRecDepth 100000 in
set_option maxHeartbeats 4000000 in
theorem same_any (fr ev ct un : Int) (D M Y : Option Addr) (dn dc mn mc yn yc : Nat) (fr2 ev2 ct2 un2 : Int) (D2 M2 Y2 : Option Addr) (dn2 dc2 mn2 mc2 yn2 yc2 : Nat) (ds : List Wd) (ms ys : List Int) (ds2 : List Wd) (ms2 ys2 : List Int) (w : World) (h : Lies w D dn M mn Y yn ds ms ys) (h2 : Lies w D2 dn2 M2 mn2 Y2 yn2 ds2 ms2 ys2) :
    Calls Tryz.prog 47 #[.agg #[.int .i64 fr, .int .i64 ev, .int .i64 ct, .int .i64 un, .slice D dn dc, .slice M mn mc, .slice Y yn yc], .agg #[.int .i64 fr2, .int .i64 ev2, .int .i64 ct2, .int .i64 un2, .slice D2 dn2 dc2, .slice M2 mn2 mc2, .slice Y2 yn2 yc2]] w (Ans w (.bool (sameB ⟨fr, ev, ct, un, ds, ms, ys⟩ ⟨fr2, ev2, ct2, un2, ds2, ms2, ys2⟩))) := by
  obtain rfl := h.dn
  obtain rfl := h.mn
  obtain rfl := h.yn
  obtain rfl := h2.dn
  obtain rfl := h2.mn
  obtain rfl := h2.yn
  have HBX := hide (more (more (start w) (.cells #[.int .i64 fr, .int .i64 ev, .int .i64 ct, .int .i64 un, .slice D ds.length dc, .slice M ms.length mc, .slice Y ys.length yc] 27)) (.cells #[.int .i64 fr2, .int .i64 ev2, .int .i64 ct2, .int .i64 un2, .slice D2 ds2.length dc2, .slice M2 ms2.length mc2, .slice Y2 ys2.length yc2] 27))
  have s0 : ((w.alloc (.cells #[.int .i64 fr, .int .i64 ev, .int .i64 ct, .int .i64 un, .slice D ds.length dc, .slice M ms.length mc, .slice Y ys.length yc] 27)).alloc (.cells #[.int .i64 fr2, .int .i64 ev2, .int .i64 ct2, .int .i64 un2, .slice D2 ds2.length dc2, .slice M2 ms2.length mc2, .slice Y2 ys2.length yc2] 27)).cell? ⟨w.heap.size, 0, none⟩ = some (.int .i64 fr) := by rw [World.cell?_alloc_past _ _ _ (by simp), World.cell?_alloc_at _ _ _ _ rfl]; rfl
  have s1 : ((w.alloc (.cells #[.int .i64 fr, .int .i64 ev, .int .i64 ct, .int .i64 un, .slice D ds.length dc, .slice M ms.length mc, .slice Y ys.length yc] 27)).alloc (.cells #[.int .i64 fr2, .int .i64 ev2, .int .i64 ct2, .int .i64 un2, .slice D2 ds2.length dc2, .slice M2 ms2.length mc2, .slice Y2 ys2.length yc2] 27)).cell? ⟨w.heap.size, 1, none⟩ = some (.int .i64 ev) := by rw [World.cell?_alloc_past _ _ _ (by simp), World.cell?_alloc_at _ _ _ _ rfl]; rfl
  have s2 : ((w.alloc (.cells #[.int .i64 fr, .int .i64 ev, .int .i64 ct, .int .i64 un, .slice D ds.length dc, .slice M ms.length mc, .slice Y ys.length yc] 27)).alloc (.cells #[.int .i64 fr2, .int .i64 ev2, .int .i64 ct2, .int .i64 un2, .slice D2 ds2.length dc2, .slice M2 ms2.length mc2, .slice Y2 ys2.length yc2] 27)).cell? ⟨w.heap.size, 2, none⟩ = some (.int .i64 ct) := by rw [World.cell?_alloc_past _ _ _ (by simp), World.cell?_alloc_at _ _ _ _ rfl]; rfl
  have s3 : ((w.alloc (.cells #[.int .i64 fr, .int .i64 ev, .int .i64 ct, .int .i64 un, .slice D ds.length dc, .slice M ms.length mc, .slice Y ys.length yc] 27)).alloc (.cells #[.int .i64 fr2, .int .i64 ev2, .int .i64 ct2, .int .i64 un2, .slice D2 ds2.length dc2, .slice M2 ms2.length mc2, .slice Y2 ys2.length yc2] 27)).cell? ⟨w.heap.size, 3, none⟩ = some (.int .i64 un) := by rw [World.cell?_alloc_past _ _ _ (by simp), World.cell?_alloc_at _ _ _ _ rfl]; rfl
  have s4 : ((w.alloc (.cells #[.int .i64 fr, .int .i64 ev, .int .i64 ct, .int .i64 un, .slice D ds.length dc, .slice M ms.length mc, .slice Y ys.length yc] 27)).alloc (.cells #[.int .i64 fr2, .int .i64 ev2, .int .i64 ct2, .int .i64 un2, .slice D2 ds2.length dc2, .slice M2 ms2.length mc2, .slice Y2 ys2.length yc2] 27)).cell? ⟨w.heap.size, 4, none⟩ = some (.slice D ds.length dc) := by rw [World.cell?_alloc_past _ _ _ (by simp), World.cell?_alloc_at _ _ _ _ rfl]; rfl
  have s5 : ((w.alloc (.cells #[.int .i64 fr, .int .i64 ev, .int .i64 ct, .int .i64 un, .slice D ds.length dc, .slice M ms.length mc, .slice Y ys.length yc] 27)).alloc (.cells #[.int .i64 fr2, .int .i64 ev2, .int .i64 ct2, .int .i64 un2, .slice D2 ds2.length dc2, .slice M2 ms2.length mc2, .slice Y2 ys2.length yc2] 27)).cell? ⟨w.heap.size, 5, none⟩ = some (.slice M ms.length mc) := by rw [World.cell?_alloc_past _ _ _ (by simp), World.cell?_alloc_at _ _ _ _ rfl]; rfl
  have s6 : ((w.alloc (.cells #[.int .i64 fr, .int .i64 ev, .int .i64 ct, .int .i64 un, .slice D ds.length dc, .slice M ms.length mc, .slice Y ys.length yc] 27)).alloc (.cells #[.int .i64 fr2, .int .i64 ev2, .int .i64 ct2, .int .i64 un2, .slice D2 ds2.length dc2, .slice M2 ms2.length mc2, .slice Y2 ys2.length yc2] 27)).cell? ⟨w.heap.size, 6, none⟩ = some (.slice Y ys.length yc) := by rw [World.cell?_alloc_past _ _ _ (by simp), World.cell?_alloc_at _ _ _ _ rfl]; rfl
  have t0 : ((w.alloc (.cells #[.int .i64 fr, .int .i64 ev, .int .i64 ct, .int .i64 un, .slice D ds.length dc, .slice M ms.length mc, .slice Y ys.length yc] 27)).alloc (.cells #[.int .i64 fr2, .int .i64 ev2, .int .i64 ct2, .int .i64 un2, .slice D2 ds2.length dc2, .slice M2 ms2.length mc2, .slice Y2 ys2.length yc2] 27)).cell? ⟨w.heap.size + 1, 0, none⟩ = some (.int .i64 fr2) := by rw [World.cell?_alloc_at _ _ _ _ (by simp)]; rfl
  have t1 : ((w.alloc (.cells #[.int .i64 fr, .int .i64 ev, .int .i64 ct, .int .i64 un, .slice D ds.length dc, .slice M ms.length mc, .slice Y ys.length yc] 27)).alloc (.cells #[.int .i64 fr2, .int .i64 ev2, .int .i64 ct2, .int .i64 un2, .slice D2 ds2.length dc2, .slice M2 ms2.length mc2, .slice Y2 ys2.length yc2] 27)).cell? ⟨w.heap.size + 1, 1, none⟩ = some (.int .i64 ev2) := by rw [World.cell?_alloc_at _ _ _ _ (by simp)]; rfl
  have t2 : ((w.alloc (.cells #[.int .i64 fr, .int .i64 ev, .int .i64 ct, .int .i64 un, .slice D ds.length dc, .slice M ms.length mc, .slice Y ys.length yc] 27)).alloc (.cells #[.int .i64 fr2, .int .i64 ev2, .int .i64 ct2, .int .i64 un2, .slice D2 ds2.length dc2, .slice M2 ms2.length mc2, .slice Y2 ys2.length yc2] 27)).cell? ⟨w.heap.size + 1, 2, none⟩ = some (.int .i64 ct2) := by rw [World.cell?_alloc_at _ _ _ _ (by simp)]; rfl
  have t3 : ((w.alloc (.cells #[.int .i64 fr, .int .i64 ev, .int .i64 ct, .int .i64 un, .slice D ds.length dc, .slice M ms.length mc, .slice Y ys.length yc] 27)).alloc (.cells #[.int .i64 fr2, .int .i64 ev2, .int .i64 ct2, .int .i64 un2, .slice D2 ds2.length dc2, .slice M2 ms2.length mc2, .slice Y2 ys2.length yc2] 27)).cell? ⟨w.heap.size + 1, 3, none⟩ = some (.int .i64 un2) := by rw [World.cell?_alloc_at _ _ _ _ (by simp)]; rfl
  have t4 : ((w.alloc (.cells #[.int .i64 fr, .int .i64 ev, .int .i64 ct, .int .i64 un, .slice D ds.length dc, .slice M ms.length mc, .slice Y ys.length yc] 27)).alloc (.cells #[.int .i64 fr2, .int .i64 ev2, .int .i64 ct2, .int .i64 un2, .slice D2 ds2.length dc2, .slice M2 ms2.length mc2, .slice Y2 ys2.length yc2] 27)).cell? ⟨w.heap.size + 1, 4, none⟩ = some (.slice D2 ds2.length dc2) := by rw [World.cell?_alloc_at _ _ _ _ (by simp)]; rfl
  have t5 : ((w.alloc (.cells #[.int .i64 fr, .int .i64 ev, .int .i64 ct, .int .i64 un, .slice D ds.length dc, .slice M ms.length mc, .slice Y ys.length yc] 27)).alloc (.cells #[.int .i64 fr2, .int .i64 ev2, .int .i64 ct2, .int .i64 un2, .slice D2 ds2.length dc2, .slice M2 ms2.length mc2, .slice Y2 ys2.length yc2] 27)).cell? ⟨w.heap.size + 1, 5, none⟩ = some (.slice M2 ms2.length mc2) := by rw [World.cell?_alloc_at _ _ _ _ (by simp)]; rfl
  have t6 : ((w.alloc (.cells #[.int .i64 fr, .int .i64 ev, .int .i64 ct, .int .i64 un, .slice D ds.length dc, .slice M ms.length mc, .slice Y ys.length yc] 27)).alloc (.cells #[.int .i64 fr2, .int .i64 ev2, .int .i64 ct2, .int .i64 un2, .slice D2 ds2.length dc2, .slice M2 ms2.length mc2, .slice Y2 ys2.length yc2] 27)).cell? ⟨w.heap.size + 1, 6, none⟩ = some (.slice Y2 ys2.length yc2) := by rw [World.cell?_alloc_at _ _ _ _ (by simp)]; rfl
  have HL := hide (h.keep HBX.out)
  have HL2 := hide (h2.keep HBX.out)
  clear h h2
  cases h1 : (fr == fr2)
  · have e := hide (show sameB ⟨fr, ev, ct, un, ds, ms, ys⟩ ⟨fr2, ev2, ct2, un2, ds2, ms2, ys2⟩ = false by rw [sameB_is]; simp only [h1]; rfl)
    have n1 : (fr != fr2) = true := by rw [bne, h1]; rfl
    clear h1 HL HL2 s0 s1 s2 s3 s4 s5 s6 t0 t1 t2 t3 t4 t5 t6
    go_enter Tryz.func47, Tryz.ntmps47
    go_wp2_with fail
    go_ret
    exact ⟨ret_bool (by rw [e.out]), HBX.out⟩
  cases h2 : (ev == ev2)
  · have e := hide (show sameB ⟨fr, ev, ct, un, ds, ms, ys⟩ ⟨fr2, ev2, ct2, un2, ds2, ms2, ys2⟩ = false by rw [sameB_is]; simp only [h1, h2]; rfl)
    have n1 : (fr != fr2) = false := by rw [bne, h1]; rfl
    have n2 : (ev != ev2) = true := by rw [bne, h2]; rfl
    clear h1 h2 HL HL2 s0 s1 s2 s3 s4 s5 s6 t0 t1 t2 t3 t4 t5 t6
    go_enter Tryz.func47, Tryz.ntmps47
    go_wp2_with fail
    go_ret
    exact ⟨ret_bool (by rw [e.out]), HBX.out⟩
  cases h3 : (ct == ct2)
  · have e := hide (show sameB ⟨fr, ev, ct, un, ds, ms, ys⟩ ⟨fr2, ev2, ct2, un2, ds2, ms2, ys2⟩ = false by rw [sameB_is]; simp only [h1, h2, h3]; rfl)
    have n1 : (fr != fr2) = false := by rw [bne, h1]; rfl
    have n2 : (ev != ev2) = false := by rw [bne, h2]; rfl
    have n3 : (ct != ct2) = true := by rw [bne, h3]; rfl
    clear h1 h2 h3 HL HL2 s0 s1 s2 s3 s4 s5 s6 t0 t1 t2 t3 t4 t5 t6
    go_enter Tryz.func47, Tryz.ntmps47
    go_wp2_with fail
    go_ret
    exact ⟨ret_bool (by rw [e.out]), HBX.out⟩
  cases h4 : (un == un2)
  · have e := hide (show sameB ⟨fr, ev, ct, un, ds, ms, ys⟩ ⟨fr2, ev2, ct2, un2, ds2, ms2, ys2⟩ = false by rw [sameB_is]; simp only [h1, h2, h3, h4]; rfl)
    have n1 : (fr != fr2) = false := by rw [bne, h1]; rfl
    have n2 : (ev != ev2) = false := by rw [bne, h2]; rfl
    have n3 : (ct != ct2) = false := by rw [bne, h3]; rfl
    have n4 : (un != un2) = true := by rw [bne, h4]; rfl
    clear h1 h2 h3 h4 HL HL2 s0 s1 s2 s3 s4 s5 s6 t0 t1 t2 t3 t4 t5 t6
    go_enter Tryz.func47, Tryz.ntmps47
    go_wp2_with fail
    go_ret
    exact ⟨ret_bool (by rw [e.out]), HBX.out⟩
  have n1 : (fr != fr2) = false := by rw [bne, h1]; rfl
  have n2 : (ev != ev2) = false := by rw [bne, h2]; rfl
  have n3 : (ct != ct2) = false := by rw [bne, h3]; rfl
  have n4 : (un != un2) = false := by rw [bne, h4]; rfl
  by_cases hlen : ds.length = ds2.length
  · by_cases hnil : ds = []
    · subst hnil
      have hkn : ds2 = [] := List.eq_nil_of_length_eq_zero hlen.symm
      subst hkn
      have HF : Hid (decide (([] : List Wd) = []) = true) := hide (by simp)
      go_enter Tryz.func47, Tryz.ntmps47
      go_wp2_with fail
      generalize ((w.alloc (.cells #[.int .i64 fr, .int .i64 ev, .int .i64 ct, .int .i64 un, .slice D 0 dc, .slice M ms.length mc, .slice Y ys.length yc] 27)).alloc (.cells #[.int .i64 fr2, .int .i64 ev2, .int .i64 ct2, .int .i64 un2, .slice D2 0 dc2, .slice M2 ms2.length mc2, .slice Y2 ys2.length yc2] 27)) = W at *
      refine wp_loop_rounds 1 ?_
      rw [rounds_succ]
      cases hms : decide (ms = ms2)
      · have e := hide (show sameB ⟨fr, ev, ct, un, [], ms, ys⟩ ⟨fr2, ev2, ct2, un2, [], ms2, ys2⟩ = false by rw [sameB_is]; simp only [h1, h2, h3, h4, eq3, HF.out, hms]; rfl)
        have HMS := hide hms
        clear hms h1 h2 h3 h4
        go_wp2_with fail
        refine (ans_is (eqR_any M M2 ms.length ms2.length mc mc2 ms ms2 _ HL.out.m HL2.out.m rfl rfl (by have := HL.out.ml; omega) (by have := HL2.out.ml; omega)) HMS.out).mono ?_
        rintro e w1 ⟨rfl, hb1⟩
        replace HBX := hide (andthen HBX.out hb1)
        clear hb1
        go_wp2_with fail
        go_ret
        exact ⟨ret_bool (by rw [e.out]), HBX.out⟩
      · have e := hide (show sameB ⟨fr, ev, ct, un, [], ms, ys⟩ ⟨fr2, ev2, ct2, un2, [], ms2, ys2⟩ = decide (ys = ys2) by rw [sameB_is]; simp only [h1, h2, h3, h4, eq3, HF.out, hms]; rfl)
        have HMS := hide hms
        clear hms h1 h2 h3 h4
        go_wp2_with fail
        refine (ans_is (eqR_any M M2 ms.length ms2.length mc mc2 ms ms2 _ HL.out.m HL2.out.m rfl rfl (by have := HL.out.ml; omega) (by have := HL2.out.ml; omega)) HMS.out).mono ?_
        rintro e w1 ⟨rfl, hb1⟩
        replace HBX := hide (andthen HBX.out hb1)
        replace HL := hide (HL.out.keep hb1)
        replace HL2 := hide (HL2.out.keep hb1)
        replace s6 := cell_keep hb1 s6
        replace t6 := cell_keep hb1 t6
        clear hb1
        go_wp2_with fail
        refine (eqR_any Y Y2 ys.length ys2.length yc yc2 ys ys2 _ HL.out.y HL2.out.y rfl rfl (by have := HL.out.yl; omega) (by have := HL2.out.yl; omega)).mono ?_
        rintro e w3 ⟨rfl, hb3⟩
        replace HBX := hide (andthen HBX.out hb3)
        clear hb3
        go_wp2_with fail
        go_ret
        exact ⟨ret_bool (by rw [e.out]), HBX.out⟩
    · obtain ⟨b1, o1, rfl, hb1, hc1⟩ := HL.out.d hnil
      obtain ⟨b2, o2, rfl, hb2, hc2⟩ := HL2.out.d (by rintro rfl; exact hnil (List.eq_nil_of_length_eq_zero hlen))
      have HC1 := hide hc1
      have HC2 := hide hc2
      have HE := hide hlen
      have hdl := HL.out.dl
      clear hc1 hc2 hnil
      have e1 : ((ds.length : Int) == (ds2.length : Int)) = true := by rw [beq_iff_eq]; omega
      have e2 : ((ds.length : Int) != (ds2.length : Int)) = false := by rw [bne, e1]; rfl
      have e3 : (ds.length != ds2.length) = false := by rw [bne, beq_iff_eq.2 hlen]; rfl
      clear hlen
      go_enter Tryz.func47, Tryz.ntmps47
      go_wp2_with fail
      generalize ((w.alloc (.cells #[.int .i64 fr, .int .i64 ev, .int .i64 ct, .int .i64 un, .slice (some ⟨b1, o1, none⟩) ds.length dc, .slice M ms.length mc, .slice Y ys.length yc] 27)).alloc (.cells #[.int .i64 fr2, .int .i64 ev2, .int .i64 ct2, .int .i64 un2, .slice (some ⟨b2, o2, none⟩) ds2.length dc2, .slice M2 ms2.length mc2, .slice Y2 ys2.length yc2] 27)) = W at *
      clear e1 e2 e3 n1 n2 n3 n4
      go_loopw [5] (fun i wr => ∃ j : Nat, j ≤ ds.length ∧ i = .int .i64 j ∧ ds.take j = ds2.take j ∧ Below W.heap.size W wr) (fun i _ => ds.length - (intOf i).toNat)
      case atStart => exact ⟨0, Nat.zero_le _, rfl, rfl, start _⟩
      case round =>
        obtain ⟨j, hj, rfl, heq, hbw⟩ := hrel
        have HT := hide heq
        clear heq
        replace s4 := cell_keep hbw s4
        replace t4 := cell_keep hbw t4
        by_cases hlt : j < ds.length
        · have hlk : j < ds2.length := by have := HE.out; omega
          have p1 : wr.cell? ⟨b1, o1 + j * 2, none⟩ = some (.int .i64 ds[j].1) := (hbw.cell (p := ⟨b1, _, none⟩) hb1).trans (HC1.out j hlt).1
          have p2 : wr.cell? ⟨b1, o1 + j * 2 + 1, none⟩ = some (.int .i64 ds[j].2) := (hbw.cell (p := ⟨b1, _, none⟩) hb1).trans (HC1.out j hlt).2
          have p3 : wr.cell? ⟨b2, o2 + j * 2, none⟩ = some (.int .i64 ds2[j].1) := (hbw.cell (p := ⟨b2, _, none⟩) hb2).trans (HC2.out j hlk).1
          have p4 : wr.cell? ⟨b2, o2 + j * 2 + 1, none⟩ = some (.int .i64 ds2[j].2) := (hbw.cell (p := ⟨b2, _, none⟩) hb2).trans (HC2.out j hlk).2
          have hi0 : (0 : Int) ≤ (j : Int) := by omega
          have hi1 : (j : Int) < (ds.length : Int) := by omega
          have hi2 : (j : Int) < (ds2.length : Int) := by omega
          clear s5 s6 t5 t6
          cases e1 : (ds[j].1 == ds2[j].1)
          · have HN : Hid (decide (ds = ds2) = false) := hide (decide_eq_false (take_ne hlt hlk fun h => by rw [h, beq_self_eq_true] at e1; cases e1))
            have e9 : (ds[j].1 != ds2[j].1) = true := by rw [bne, e1]; rfl
            have e := hide (show sameB ⟨fr, ev, ct, un, ds, ms, ys⟩ ⟨fr2, ev2, ct2, un2, ds2, ms2, ys2⟩ = false by rw [sameB_is]; simp only [h1, h2, h3, h4, eq3, HN.out]; rfl)
            clear h1 h2 h3 h4
            go_wp2_with fail
            go_quiet (fail)
            go_wp2_with fail
            go_ret
            exact ⟨ret_bool (by rw [e.out]), below_drawn (andthen HBX.out hbw) _⟩
          · have e8 : (ds[j].1 != ds2[j].1) = false := by rw [bne, e1]; rfl
            cases e2 : (ds[j].2 == ds2[j].2)
            · have HN : Hid (decide (ds = ds2) = false) := hide (decide_eq_false (take_ne hlt hlk fun h => by rw [h, beq_self_eq_true] at e2; cases e2))
              have e9 : (ds[j].2 != ds2[j].2) = true := by rw [bne, e2]; rfl
              have e := hide (show sameB ⟨fr, ev, ct, un, ds, ms, ys⟩ ⟨fr2, ev2, ct2, un2, ds2, ms2, ys2⟩ = false by rw [sameB_is]; simp only [h1, h2, h3, h4, eq3, HN.out]; rfl)
              clear h1 h2 h3 h4
              go_wp2_with fail
              go_quiet (fail)
              go_wp2_with fail
              go_ret
              exact ⟨ret_bool (by rw [e.out]), below_drawn (andthen HBX.out hbw) _⟩
            · have e9 : (ds[j].2 != ds2[j].2) = false := by rw [bne, e2]; rfl
              have HN : Hid (ds.take (j + 1) = ds2.take (j + 1)) := by
                show ds.take (j + 1) = ds2.take (j + 1)
                rw [List.take_succ_eq_append_getElem hlt, List.take_succ_eq_append_getElem hlk, HT.out]
                congr 2
                exact Prod.ext (by simpa using e1) (by simpa using e2)
              clear h1 h2 h3 h4
              go_wp2_with fail
              go_quiet (fail)
              go_wp2_with fail
              go_roundw
              case rel => exact ⟨j + 1, by omega, by go_num, HN.out, below_drawn hbw _⟩
              case measure => simp [intOf]; omega
        · obtain rfl : j = ds.length := by omega
          have HF : Hid (decide (ds = ds2) = true) := hide (decide_eq_true (same_all HE.out HT.out))
          replace HBX := hide (andthen HBX.out hbw)
          replace HL := hide (HL.out.keep hbw)
          replace HL2 := hide (HL2.out.keep hbw)
          replace s5 := cell_keep hbw s5
          replace s6 := cell_keep hbw s6
          replace t5 := cell_keep hbw t5
          replace t6 := cell_keep hbw t6
          clear hbw
          cases hms : decide (ms = ms2)
          · have e := hide (show sameB ⟨fr, ev, ct, un, ds, ms, ys⟩ ⟨fr2, ev2, ct2, un2, ds2, ms2, ys2⟩ = false by rw [sameB_is]; simp only [h1, h2, h3, h4, eq3, HF.out, hms]; rfl)
            have HMS := hide hms
            clear hms h1 h2 h3 h4
            go_wp2_with fail
            refine (ans_is (eqR_any M M2 ms.length ms2.length mc mc2 ms ms2 _ HL.out.m HL2.out.m rfl rfl (by have := HL.out.ml; omega) (by have := HL2.out.ml; omega)) HMS.out).mono ?_
            rintro e w1 ⟨rfl, hb1⟩
            replace HBX := hide (andthen HBX.out hb1)
            clear hb1
            go_wp2_with fail
            go_ret
            exact ⟨ret_bool (by rw [e.out]), HBX.out⟩
          · have e := hide (show sameB ⟨fr, ev, ct, un, ds, ms, ys⟩ ⟨fr2, ev2, ct2, un2, ds2, ms2, ys2⟩ = decide (ys = ys2) by rw [sameB_is]; simp only [h1, h2, h3, h4, eq3, HF.out, hms]; rfl)
            have HMS := hide hms
            clear hms h1 h2 h3 h4
            go_wp2_with fail
            refine (ans_is (eqR_any M M2 ms.length ms2.length mc mc2 ms ms2 _ HL.out.m HL2.out.m rfl rfl (by have := HL.out.ml; omega) (by have := HL2.out.ml; omega)) HMS.out).mono ?_
            rintro e w1 ⟨rfl, hb1⟩
            replace HBX := hide (andthen HBX.out hb1)
            replace HL := hide (HL.out.keep hb1)
            replace HL2 := hide (HL2.out.keep hb1)
            replace s6 := cell_keep hb1 s6
            replace t6 := cell_keep hb1 t6
            clear hb1
            go_wp2_with fail
            refine (eqR_any Y Y2 ys.length ys2.length yc yc2 ys ys2 _ HL.out.y HL2.out.y rfl rfl (by have := HL.out.yl; omega) (by have := HL2.out.yl; omega)).mono ?_
            rintro e w3 ⟨rfl, hb3⟩
            replace HBX := hide (andthen HBX.out hb3)
            clear hb3
            go_wp2_with fail
            go_ret
            exact ⟨ret_bool (by rw [e.out]), HBX.out⟩
  · have e := hide (show sameB ⟨fr, ev, ct, un, ds, ms, ys⟩ ⟨fr2, ev2, ct2, un2, ds2, ms2, ys2⟩ = false by rw [sameB_is]; simp only [h1, h2, h3, h4, eq3, decide_eq_false (show ¬ ds = ds2 from fun hc => hlen (by rw [hc]))]; rfl)
    have e1 : ((ds.length : Int) == (ds2.length : Int)) = false := by rw [beq_eq_false_iff_ne]; omega
    have e2 : ((ds.length : Int) != (ds2.length : Int)) = true := by rw [bne, e1]; rfl
    have e3 : (ds.length != ds2.length) = true := by rw [bne, beq_eq_false_iff_ne.2 hlen]; rfl
    clear h1 h2 h3 h4 HL HL2 s0 s1 s2 s3 s4 s5 s6 t0 t1 t2 t3 t4 t5 t6
    go_enter Tryz.func47, Tryz.ntmps47
    go_wp2_with fail
    go_ret
    exact ⟨ret_bool (by rw [e.out]), HBX.out⟩

end Go.Proofs.YtlmdceeeahnkcaaGreatDoor.R
namespace Go.Proofs.YtlmdceeeahnkcaaGreatDoor.R
open Go.RowKit Rul Go.Sort

theorem rng_iff (fr ev ct un : Int) : rngB fr ev ct un = true ↔ 1 ≤ fr ∧ fr ≤ 4 ∧ 1 ≤ ev ∧ ev ≤ 100 ∧ 0 ≤ ct ∧ ct ≤ 40 ∧ -1 ≤ un ∧ un ≤ 52595999 ∧ (ct = 0 ∨ un = -1) := by
  unfold rngB; simp only [Bool.and_eq_true, Bool.or_eq_true, btw_iff, beq_iff_eq, and_assoc]

set_option maxRecDepth 100000 in
set_option maxHeartbeats 4000000 in
theorem is_any (fr ev ct un : Int) (D M Y : Option Addr) (dn dc mn mc yn yc : Nat) (ds : List Wd) (ms ys : List Int) (w : World) (h : Lies w D dn M mn Y yn ds ms ys) :
    Calls Tryz.prog 50 #[.agg #[.int .i64 fr, .int .i64 ev, .int .i64 ct, .int .i64 un, .slice D dn dc, .slice M mn mc, .slice Y yn yc]] w (Ans w (.bool (isB ⟨fr, ev, ct, un, ds, ms, ys⟩))) := by
  have HBX := hide (more (start w) (.cells #[.int .i64 fr, .int .i64 ev, .int .i64 ct, .int .i64 un, .slice D dn dc, .slice M mn mc, .slice Y yn yc] 27))
  have HL := hide (h.keep HBX.out)
  have s0 : (w.alloc (.cells #[.int .i64 fr, .int .i64 ev, .int .i64 ct, .int .i64 un, .slice D dn dc, .slice M mn mc, .slice Y yn yc] 27)).cell? ⟨w.heap.size, 0, none⟩ = some (.int .i64 fr) := by rw [World.cell?_alloc_at _ _ _ _ rfl]; rfl
  have s1 : (w.alloc (.cells #[.int .i64 fr, .int .i64 ev, .int .i64 ct, .int .i64 un, .slice D dn dc, .slice M mn mc, .slice Y yn yc] 27)).cell? ⟨w.heap.size, 1, none⟩ = some (.int .i64 ev) := by rw [World.cell?_alloc_at _ _ _ _ rfl]; rfl
  have s2 : (w.alloc (.cells #[.int .i64 fr, .int .i64 ev, .int .i64 ct, .int .i64 un, .slice D dn dc, .slice M mn mc, .slice Y yn yc] 27)).cell? ⟨w.heap.size, 2, none⟩ = some (.int .i64 ct) := by rw [World.cell?_alloc_at _ _ _ _ rfl]; rfl
  have s3 : (w.alloc (.cells #[.int .i64 fr, .int .i64 ev, .int .i64 ct, .int .i64 un, .slice D dn dc, .slice M mn mc, .slice Y yn yc] 27)).cell? ⟨w.heap.size, 3, none⟩ = some (.int .i64 un) := by rw [World.cell?_alloc_at _ _ _ _ rfl]; rfl
  have s4 : (w.alloc (.cells #[.int .i64 fr, .int .i64 ev, .int .i64 ct, .int .i64 un, .slice D dn dc, .slice M mn mc, .slice Y yn yc] 27)).cell? ⟨w.heap.size, 4, none⟩ = some (.slice D dn dc) := by rw [World.cell?_alloc_at _ _ _ _ rfl]; rfl
  have s5 : (w.alloc (.cells #[.int .i64 fr, .int .i64 ev, .int .i64 ct, .int .i64 un, .slice D dn dc, .slice M mn mc, .slice Y yn yc] 27)).cell? ⟨w.heap.size, 5, none⟩ = some (.slice M mn mc) := by rw [World.cell?_alloc_at _ _ _ _ rfl]; rfl
  have s6 : (w.alloc (.cells #[.int .i64 fr, .int .i64 ev, .int .i64 ct, .int .i64 un, .slice D dn dc, .slice M mn mc, .slice Y yn yc] 27)).cell? ⟨w.heap.size, 6, none⟩ = some (.slice Y yn yc) := by rw [World.cell?_alloc_at _ _ _ _ rfl]; rfl
  clear h
  by_cases h0 : fr = 0
  · subst h0
    have e := hide (show isB ⟨0, ev, ct, un, ds, ms, ys⟩ = sameB ⟨0, ev, ct, un, ds, ms, ys⟩ ⟨0, 0, 0, -1, [], [], []⟩ from isB_0 _ rfl)
    go_enter Tryz.func50, Tryz.ntmps50
    go_wp2_with fail
    generalize (w.alloc (.cells #[.int .i64 0, .int .i64 ev, .int .i64 ct, .int .i64 un, .slice D dn dc, .slice M mn mc, .slice Y yn yc] 27)) = W at *
    have fs0 := fun d os => cell_regrown s0 d os
    have fs1 := fun d os => cell_regrown s1 d os
    have fs2 := fun d os => cell_regrown s2 d os
    have fs3 := fun d os => cell_regrown s3 d os
    have fs4 := fun d os => cell_regrown s4 d os
    have fs5 := fun d os => cell_regrown s5 d os
    have fs6 := fun d os => cell_regrown s6 d os
    have L1 := hide (fun d os => Lies.keep HL.out (below_regrown W d os))
    clear HL s0 s1 s2 s3 s4 s5 s6
    refine wp_region_quiet_below (by kernel_rfl) (by kernel_rfl) ?_
    repeat (first | go_big_quiet_step ((first | (go_at_call 67; exact Calls.regrown_of (once_any _)) | (go_at_call 47; exact Calls.regrown_of (same_any 0 ev ct un D M Y dn dc mn mc yn yc 0 0 0 (-1) none none none 0 0 0 0 0 0 ds ms ys [] [] [] _ (L1.out _ _) (lies_once _))))) | quiet_step ((first | (go_at_call 67; exact Calls.regrown_of (once_any _)) | (go_at_call 47; exact Calls.regrown_of (same_any 0 ev ct un D M Y dn dc mn mc yn yc 0 0 0 (-1) none none none 0 0 0 0 0 0 ds ms ys [] [] [] _ (L1.out _ _) (lies_once _))))))
    refine wpQuiet_nil ?_
    intro _ hw'
    obtain ⟨⟨nq, osq⟩, hw''⟩ := hw'
    subst hw''
    replace HBX := hide (andthen HBX.out (below_regrown W nq osq))
    go_wp2_with fail
    go_ret
    exact ⟨ret_bool (by rw [e.out]), HBX.out⟩
  have n0 : (fr == 0) = false := by rw [beq_eq_false_iff_ne]; exact h0
  cases k1 : decide (fr < 1)
  case true =>
    have q1 : fr < 1 := by simpa using k1
    have hr : rngB fr ev ct un = false := by rw [← Bool.not_eq_true, rng_iff]; omega
    have e := hide (show isB ⟨fr, ev, ct, un, ds, ms, ys⟩ = false by rw [← isR_eq]; unfold isR; rw [if_neg h0, if_pos (show rangeB ⟨fr, ev, ct, un, ds, ms, ys⟩ = false from hr)])
    clear hr h0 HL q1
    go_enter Tryz.func50, Tryz.ntmps50
    go_wp2_with fail
    go_ret
    exact ⟨ret_bool (by rw [e.out]), HBX.out⟩
  cases k2 : decide (4 < fr)
  case true =>
    have q1 : ¬ fr < 1 := by simpa using k1
    have q2 : 4 < fr := by simpa using k2
    have hr : rngB fr ev ct un = false := by rw [← Bool.not_eq_true, rng_iff]; omega
    have e := hide (show isB ⟨fr, ev, ct, un, ds, ms, ys⟩ = false by rw [← isR_eq]; unfold isR; rw [if_neg h0, if_pos (show rangeB ⟨fr, ev, ct, un, ds, ms, ys⟩ = false from hr)])
    clear hr h0 HL q1 q2
    go_enter Tryz.func50, Tryz.ntmps50
    go_wp2_with fail
    go_ret
    exact ⟨ret_bool (by rw [e.out]), HBX.out⟩
  cases k3 : decide (ev < 1)
  case true =>
    have q1 : ¬ fr < 1 := by simpa using k1
    have q2 : ¬ 4 < fr := by simpa using k2
    have q3 : ev < 1 := by simpa using k3
    have hr : rngB fr ev ct un = false := by rw [← Bool.not_eq_true, rng_iff]; omega
    have e := hide (show isB ⟨fr, ev, ct, un, ds, ms, ys⟩ = false by rw [← isR_eq]; unfold isR; rw [if_neg h0, if_pos (show rangeB ⟨fr, ev, ct, un, ds, ms, ys⟩ = false from hr)])
    clear hr h0 HL q1 q2 q3
    go_enter Tryz.func50, Tryz.ntmps50
    go_wp2_with fail
    go_ret
    exact ⟨ret_bool (by rw [e.out]), HBX.out⟩
  cases k4 : decide (100 < ev)
  case true =>
    have q1 : ¬ fr < 1 := by simpa using k1
    have q2 : ¬ 4 < fr := by simpa using k2
    have q3 : ¬ ev < 1 := by simpa using k3
    have q4 : 100 < ev := by simpa using k4
    have hr : rngB fr ev ct un = false := by rw [← Bool.not_eq_true, rng_iff]; omega
    have e := hide (show isB ⟨fr, ev, ct, un, ds, ms, ys⟩ = false by rw [← isR_eq]; unfold isR; rw [if_neg h0, if_pos (show rangeB ⟨fr, ev, ct, un, ds, ms, ys⟩ = false from hr)])
    clear hr h0 HL q1 q2 q3 q4
    go_enter Tryz.func50, Tryz.ntmps50
    go_wp2_with fail
    go_ret
    exact ⟨ret_bool (by rw [e.out]), HBX.out⟩
  cases k5 : decide (ct < 0)
  case true =>
    have q1 : ¬ fr < 1 := by simpa using k1
    have q2 : ¬ 4 < fr := by simpa using k2
    have q3 : ¬ ev < 1 := by simpa using k3
    have q4 : ¬ 100 < ev := by simpa using k4
    have q5 : ct < 0 := by simpa using k5
    have hr : rngB fr ev ct un = false := by rw [← Bool.not_eq_true, rng_iff]; omega
    have e := hide (show isB ⟨fr, ev, ct, un, ds, ms, ys⟩ = false by rw [← isR_eq]; unfold isR; rw [if_neg h0, if_pos (show rangeB ⟨fr, ev, ct, un, ds, ms, ys⟩ = false from hr)])
    clear hr h0 HL q1 q2 q3 q4 q5
    go_enter Tryz.func50, Tryz.ntmps50
    go_wp2_with fail
    go_ret
    exact ⟨ret_bool (by rw [e.out]), HBX.out⟩
  cases k6 : decide (40 < ct)
  case true =>
    have q1 : ¬ fr < 1 := by simpa using k1
    have q2 : ¬ 4 < fr := by simpa using k2
    have q3 : ¬ ev < 1 := by simpa using k3
    have q4 : ¬ 100 < ev := by simpa using k4
    have q5 : ¬ ct < 0 := by simpa using k5
    have q6 : 40 < ct := by simpa using k6
    have hr : rngB fr ev ct un = false := by rw [← Bool.not_eq_true, rng_iff]; omega
    have e := hide (show isB ⟨fr, ev, ct, un, ds, ms, ys⟩ = false by rw [← isR_eq]; unfold isR; rw [if_neg h0, if_pos (show rangeB ⟨fr, ev, ct, un, ds, ms, ys⟩ = false from hr)])
    clear hr h0 HL q1 q2 q3 q4 q5 q6
    go_enter Tryz.func50, Tryz.ntmps50
    go_wp2_with fail
    go_ret
    exact ⟨ret_bool (by rw [e.out]), HBX.out⟩
  cases k7 : decide (un < -1)
  case true =>
    have q1 : ¬ fr < 1 := by simpa using k1
    have q2 : ¬ 4 < fr := by simpa using k2
    have q3 : ¬ ev < 1 := by simpa using k3
    have q4 : ¬ 100 < ev := by simpa using k4
    have q5 : ¬ ct < 0 := by simpa using k5
    have q6 : ¬ 40 < ct := by simpa using k6
    have q7 : un < -1 := by simpa using k7
    have hr : rngB fr ev ct un = false := by rw [← Bool.not_eq_true, rng_iff]; omega
    have e := hide (show isB ⟨fr, ev, ct, un, ds, ms, ys⟩ = false by rw [← isR_eq]; unfold isR; rw [if_neg h0, if_pos (show rangeB ⟨fr, ev, ct, un, ds, ms, ys⟩ = false from hr)])
    clear hr h0 HL q1 q2 q3 q4 q5 q6 q7
    go_enter Tryz.func50, Tryz.ntmps50
    go_wp2_with fail
    go_ret
    exact ⟨ret_bool (by rw [e.out]), HBX.out⟩
  cases k8 : decide (52596000 ≤ un)
  case true =>
    have q1 : ¬ fr < 1 := by simpa using k1
    have q2 : ¬ 4 < fr := by simpa using k2
    have q3 : ¬ ev < 1 := by simpa using k3
    have q4 : ¬ 100 < ev := by simpa using k4
    have q5 : ¬ ct < 0 := by simpa using k5
    have q6 : ¬ 40 < ct := by simpa using k6
    have q7 : ¬ un < -1 := by simpa using k7
    have q8 : 52596000 ≤ un := by simpa using k8
    have hr : rngB fr ev ct un = false := by rw [← Bool.not_eq_true, rng_iff]; omega
    have e := hide (show isB ⟨fr, ev, ct, un, ds, ms, ys⟩ = false by rw [← isR_eq]; unfold isR; rw [if_neg h0, if_pos (show rangeB ⟨fr, ev, ct, un, ds, ms, ys⟩ = false from hr)])
    clear hr h0 HL q1 q2 q3 q4 q5 q6 q7 q8
    go_enter Tryz.func50, Tryz.ntmps50
    go_wp2_with fail
    go_ret
    exact ⟨ret_bool (by rw [e.out]), HBX.out⟩
  cases k9 : decide (0 < ct)
  · have q1 : ¬ fr < 1 := by simpa using k1
    have q2 : ¬ 4 < fr := by simpa using k2
    have q3 : ¬ ev < 1 := by simpa using k3
    have q4 : ¬ 100 < ev := by simpa using k4
    have q5 : ¬ ct < 0 := by simpa using k5
    have q6 : ¬ 40 < ct := by simpa using k6
    have q7 : ¬ un < -1 := by simpa using k7
    have q8 : ¬ 52596000 ≤ un := by simpa using k8
    have q9 : ¬ 0 < ct := by simpa using k9
    have hr : rngB fr ev ct un = true := by rw [rng_iff]; omega
    clear q1 q2 q3 q4 q5 q6 q7 q8 q9
    cases p1 : byDayB ds (decide (3 ≤ fr))
    · have hl : (byDayB ds (decide (3 ≤ fr)) && (risB ms (-31) 31 && risB ys 1 12)) = false := by simp [p1]
      have e := hide (show isB ⟨fr, ev, ct, un, ds, ms, ys⟩ = false by rw [← isR_eq]; unfold isR; rw [if_neg h0, if_neg (show ¬ rangeB ⟨fr, ev, ct, un, ds, ms, ys⟩ = false from by rw [show rangeB ⟨fr, ev, ct, un, ds, ms, ys⟩ = true from hr]; simp), if_pos hl])
      have P1 := hide p1
      clear hl hr h0 p1
      go_enter Tryz.func50, Tryz.ntmps50
      go_wp2_with fail
      refine (ans_is (byDay_any D dn dc ds (decide (3 ≤ fr)) _ HL.out.d HL.out.dn HL.out.dl) P1.out).mono ?_
      rintro e w1 ⟨rfl, hb1⟩
      replace HBX := hide (andthen HBX.out hb1)
      clear hb1
      go_wp2_with fail
      go_ret
      exact ⟨ret_bool (by rw [e.out]), HBX.out⟩
    cases p2 : risB ms (-31) 31
    · have hl : (byDayB ds (decide (3 ≤ fr)) && (risB ms (-31) 31 && risB ys 1 12)) = false := by simp [p1, p2]
      have e := hide (show isB ⟨fr, ev, ct, un, ds, ms, ys⟩ = false by rw [← isR_eq]; unfold isR; rw [if_neg h0, if_neg (show ¬ rangeB ⟨fr, ev, ct, un, ds, ms, ys⟩ = false from by rw [show rangeB ⟨fr, ev, ct, un, ds, ms, ys⟩ = true from hr]; simp), if_pos hl])
      have P1 := hide p1
      have P2 := hide p2
      clear hl hr h0 p1 p2
      go_enter Tryz.func50, Tryz.ntmps50
      go_wp2_with fail
      refine (ans_is (byDay_any D dn dc ds (decide (3 ≤ fr)) _ HL.out.d HL.out.dn HL.out.dl) P1.out).mono ?_
      rintro e w1 ⟨rfl, hb1⟩
      replace HBX := hide (andthen HBX.out hb1)
      replace HL := hide (HL.out.keep hb1)
      replace s0 := cell_keep hb1 s0
      replace s1 := cell_keep hb1 s1
      replace s2 := cell_keep hb1 s2
      replace s3 := cell_keep hb1 s3
      replace s4 := cell_keep hb1 s4
      replace s5 := cell_keep hb1 s5
      replace s6 := cell_keep hb1 s6
      clear hb1
      go_wp2_with fail
      refine (ans_is (rising_any M mn mc ms (-31) 31 _ HL.out.m HL.out.mn HL.out.ml) P2.out).mono ?_
      rintro e w1 ⟨rfl, hb1⟩
      replace HBX := hide (andthen HBX.out hb1)
      clear hb1
      go_wp2_with fail
      go_ret
      exact ⟨ret_bool (by rw [e.out]), HBX.out⟩
    cases p3 : risB ys 1 12
    · have hl : (byDayB ds (decide (3 ≤ fr)) && (risB ms (-31) 31 && risB ys 1 12)) = false := by simp [p1, p2, p3]
      have e := hide (show isB ⟨fr, ev, ct, un, ds, ms, ys⟩ = false by rw [← isR_eq]; unfold isR; rw [if_neg h0, if_neg (show ¬ rangeB ⟨fr, ev, ct, un, ds, ms, ys⟩ = false from by rw [show rangeB ⟨fr, ev, ct, un, ds, ms, ys⟩ = true from hr]; simp), if_pos hl])
      have P1 := hide p1
      have P2 := hide p2
      have P3 := hide p3
      clear hl hr h0 p1 p2 p3
      go_enter Tryz.func50, Tryz.ntmps50
      go_wp2_with fail
      refine (ans_is (byDay_any D dn dc ds (decide (3 ≤ fr)) _ HL.out.d HL.out.dn HL.out.dl) P1.out).mono ?_
      rintro e w1 ⟨rfl, hb1⟩
      replace HBX := hide (andthen HBX.out hb1)
      replace HL := hide (HL.out.keep hb1)
      replace s0 := cell_keep hb1 s0
      replace s1 := cell_keep hb1 s1
      replace s2 := cell_keep hb1 s2
      replace s3 := cell_keep hb1 s3
      replace s4 := cell_keep hb1 s4
      replace s5 := cell_keep hb1 s5
      replace s6 := cell_keep hb1 s6
      clear hb1
      go_wp2_with fail
      refine (ans_is (rising_any M mn mc ms (-31) 31 _ HL.out.m HL.out.mn HL.out.ml) P2.out).mono ?_
      rintro e w1 ⟨rfl, hb1⟩
      replace HBX := hide (andthen HBX.out hb1)
      replace HL := hide (HL.out.keep hb1)
      replace s0 := cell_keep hb1 s0
      replace s1 := cell_keep hb1 s1
      replace s2 := cell_keep hb1 s2
      replace s3 := cell_keep hb1 s3
      replace s4 := cell_keep hb1 s4
      replace s5 := cell_keep hb1 s5
      replace s6 := cell_keep hb1 s6
      clear hb1
      go_wp2_with fail
      refine (ans_is (rising_any Y yn yc ys 1 12 _ HL.out.y HL.out.yn HL.out.yl) P3.out).mono ?_
      rintro e w1 ⟨rfl, hb1⟩
      replace HBX := hide (andthen HBX.out hb1)
      clear hb1
      go_wp2_with fail
      go_ret
      exact ⟨ret_bool (by rw [e.out]), HBX.out⟩
    have e0 : isB ⟨fr, ev, ct, un, ds, ms, ys⟩ = (if fr = 2 ∧ 0 < ms.length then false else decide (fr ≠ 4) || (decide (0 < ys.length) || decide (ds.length + ms.length = 0))) := by
      rw [← isR_eq]; unfold isR; rw [if_neg h0, if_neg (show ¬ rangeB ⟨fr, ev, ct, un, ds, ms, ys⟩ = false from by rw [show rangeB ⟨fr, ev, ct, un, ds, ms, ys⟩ = true from hr]; simp), if_neg (show ¬ (byDayB ds (decide (3 ≤ fr)) && (risB ms (-31) 31 && risB ys 1 12)) = false from by simp only [p1, p2, p3]; simp)]
    have P1 := hide p1
    have P2 := hide p2
    have P3 := hide p3
    have HN := hide (And.intro HL.out.dn (And.intro HL.out.mn (And.intro HL.out.yn (And.intro HL.out.dl HL.out.ml))))
    clear hr p1 p2 p3
    by_cases f2 : fr = 2
    · have g5 : (fr == 2) = true := beq_iff_eq.2 f2
      have g6 : (fr != 4) = true := by rw [bne_iff_ne]; omega
      have f4 : fr ≠ 4 := by omega
      by_cases hm : 0 < ms.length
      · have e := hide (show isB ⟨fr, ev, ct, un, ds, ms, ys⟩ = false by rw [e0, if_pos ⟨f2, hm⟩])
        have g0 : 0 < mn := by rw [HN.out.2.1]; exact hm
        have g1 : decide (0 < (mn : Int)) = true := decide_eq_true (by omega)
        have g2 : decide (0 < mn) = true := decide_eq_true g0
        clear e0 hm h0 f2 f4
        go_enter Tryz.func50, Tryz.ntmps50
        go_wp2_with fail
        refine (ans_is (byDay_any D dn dc ds (decide (3 ≤ fr)) _ HL.out.d HL.out.dn HL.out.dl) P1.out).mono ?_
        rintro e w1 ⟨rfl, hb1⟩
        replace HBX := hide (andthen HBX.out hb1)
        replace HL := hide (HL.out.keep hb1)
        replace s0 := cell_keep hb1 s0
        replace s1 := cell_keep hb1 s1
        replace s2 := cell_keep hb1 s2
        replace s3 := cell_keep hb1 s3
        replace s4 := cell_keep hb1 s4
        replace s5 := cell_keep hb1 s5
        replace s6 := cell_keep hb1 s6
        clear hb1
        go_wp2_with fail
        refine (ans_is (rising_any M mn mc ms (-31) 31 _ HL.out.m HL.out.mn HL.out.ml) P2.out).mono ?_
        rintro e w1 ⟨rfl, hb1⟩
        replace HBX := hide (andthen HBX.out hb1)
        replace HL := hide (HL.out.keep hb1)
        replace s0 := cell_keep hb1 s0
        replace s1 := cell_keep hb1 s1
        replace s2 := cell_keep hb1 s2
        replace s3 := cell_keep hb1 s3
        replace s4 := cell_keep hb1 s4
        replace s5 := cell_keep hb1 s5
        replace s6 := cell_keep hb1 s6
        clear hb1
        go_wp2_with fail
        refine (ans_is (rising_any Y yn yc ys 1 12 _ HL.out.y HL.out.yn HL.out.yl) P3.out).mono ?_
        rintro e w1 ⟨rfl, hb1⟩
        replace HBX := hide (andthen HBX.out hb1)
        replace HL := hide (HL.out.keep hb1)
        replace s0 := cell_keep hb1 s0
        replace s1 := cell_keep hb1 s1
        replace s2 := cell_keep hb1 s2
        replace s3 := cell_keep hb1 s3
        replace s4 := cell_keep hb1 s4
        replace s5 := cell_keep hb1 s5
        replace s6 := cell_keep hb1 s6
        clear hb1
        go_wp2_with fail
        go_ret
        exact ⟨ret_bool (by rw [e.out]), HBX.out⟩
      · have e := hide (show isB ⟨fr, ev, ct, un, ds, ms, ys⟩ = true by rw [e0, if_neg (fun h => hm h.2), decide_eq_true f4]; rfl)
        obtain rfl : mn = 0 := by rw [HN.out.2.1]; omega
        clear e0 hm h0 f2 f4
        go_enter Tryz.func50, Tryz.ntmps50
        go_wp2_with fail
        refine (ans_is (byDay_any D dn dc ds (decide (3 ≤ fr)) _ HL.out.d HL.out.dn HL.out.dl) P1.out).mono ?_
        rintro e w1 ⟨rfl, hb1⟩
        replace HBX := hide (andthen HBX.out hb1)
        replace HL := hide (HL.out.keep hb1)
        replace s0 := cell_keep hb1 s0
        replace s1 := cell_keep hb1 s1
        replace s2 := cell_keep hb1 s2
        replace s3 := cell_keep hb1 s3
        replace s4 := cell_keep hb1 s4
        replace s5 := cell_keep hb1 s5
        replace s6 := cell_keep hb1 s6
        clear hb1
        go_wp2_with fail
        refine (ans_is (rising_any M 0 mc ms (-31) 31 _ HL.out.m HL.out.mn HL.out.ml) P2.out).mono ?_
        rintro e w1 ⟨rfl, hb1⟩
        replace HBX := hide (andthen HBX.out hb1)
        replace HL := hide (HL.out.keep hb1)
        replace s0 := cell_keep hb1 s0
        replace s1 := cell_keep hb1 s1
        replace s2 := cell_keep hb1 s2
        replace s3 := cell_keep hb1 s3
        replace s4 := cell_keep hb1 s4
        replace s5 := cell_keep hb1 s5
        replace s6 := cell_keep hb1 s6
        clear hb1
        go_wp2_with fail
        refine (ans_is (rising_any Y yn yc ys 1 12 _ HL.out.y HL.out.yn HL.out.yl) P3.out).mono ?_
        rintro e w1 ⟨rfl, hb1⟩
        replace HBX := hide (andthen HBX.out hb1)
        replace HL := hide (HL.out.keep hb1)
        replace s0 := cell_keep hb1 s0
        replace s1 := cell_keep hb1 s1
        replace s2 := cell_keep hb1 s2
        replace s3 := cell_keep hb1 s3
        replace s4 := cell_keep hb1 s4
        replace s5 := cell_keep hb1 s5
        replace s6 := cell_keep hb1 s6
        clear hb1
        go_wp2_with fail
        go_ret
        exact ⟨ret_bool (by rw [e.out]), HBX.out⟩
    have n2 : (fr == 2) = false := by rw [beq_eq_false_iff_ne]; exact f2
    by_cases f4 : fr = 4
    · have g6 : (fr != 4) = false := by rw [bne, beq_iff_eq.2 f4]; rfl
      have n4 : ¬ fr ≠ 4 := fun h => h f4
      by_cases hy : 0 < ys.length
      · have e := hide (show isB ⟨fr, ev, ct, un, ds, ms, ys⟩ = true by rw [e0, if_neg (fun h => f2 h.1), decide_eq_true hy, decide_eq_false n4]; rfl)
        have g0 : 0 < yn := by rw [HN.out.2.2.1]; exact hy
        have g1 : decide (0 < (yn : Int)) = true := decide_eq_true (by omega)
        have g2 : decide (0 < yn) = true := decide_eq_true g0
        clear e0 hy f2 h0 f4 n4
        go_enter Tryz.func50, Tryz.ntmps50
        go_wp2_with fail
        refine (ans_is (byDay_any D dn dc ds (decide (3 ≤ fr)) _ HL.out.d HL.out.dn HL.out.dl) P1.out).mono ?_
        rintro e w1 ⟨rfl, hb1⟩
        replace HBX := hide (andthen HBX.out hb1)
        replace HL := hide (HL.out.keep hb1)
        replace s0 := cell_keep hb1 s0
        replace s1 := cell_keep hb1 s1
        replace s2 := cell_keep hb1 s2
        replace s3 := cell_keep hb1 s3
        replace s4 := cell_keep hb1 s4
        replace s5 := cell_keep hb1 s5
        replace s6 := cell_keep hb1 s6
        clear hb1
        go_wp2_with fail
        refine (ans_is (rising_any M mn mc ms (-31) 31 _ HL.out.m HL.out.mn HL.out.ml) P2.out).mono ?_
        rintro e w1 ⟨rfl, hb1⟩
        replace HBX := hide (andthen HBX.out hb1)
        replace HL := hide (HL.out.keep hb1)
        replace s0 := cell_keep hb1 s0
        replace s1 := cell_keep hb1 s1
        replace s2 := cell_keep hb1 s2
        replace s3 := cell_keep hb1 s3
        replace s4 := cell_keep hb1 s4
        replace s5 := cell_keep hb1 s5
        replace s6 := cell_keep hb1 s6
        clear hb1
        go_wp2_with fail
        refine (ans_is (rising_any Y yn yc ys 1 12 _ HL.out.y HL.out.yn HL.out.yl) P3.out).mono ?_
        rintro e w1 ⟨rfl, hb1⟩
        replace HBX := hide (andthen HBX.out hb1)
        replace HL := hide (HL.out.keep hb1)
        replace s0 := cell_keep hb1 s0
        replace s1 := cell_keep hb1 s1
        replace s2 := cell_keep hb1 s2
        replace s3 := cell_keep hb1 s3
        replace s4 := cell_keep hb1 s4
        replace s5 := cell_keep hb1 s5
        replace s6 := cell_keep hb1 s6
        clear hb1
        go_wp2_with fail
        go_ret
        exact ⟨ret_bool (by rw [e.out]), HBX.out⟩
      · have e := hide (show isB ⟨fr, ev, ct, un, ds, ms, ys⟩ = decide (ds.length + ms.length = 0) by rw [e0, if_neg (fun h => f2 h.1), decide_eq_false hy, decide_eq_false n4]; rfl)
        obtain rfl : yn = 0 := by rw [HN.out.2.2.1]; omega
        have hm : (((dn : Int) + (mn : Int)) == 0) = decide (ds.length + ms.length = 0) := by
          rw [HN.out.1, HN.out.2.1]
          by_cases hz : ds.length + ms.length = 0
          · rw [decide_eq_true hz, beq_iff_eq]; omega
          · rw [decide_eq_false hz, beq_eq_false_iff_ne]; omega
        have HM := hide hm
        have d1 : dn ≤ 10000 := by rw [HN.out.1]; exact HN.out.2.2.2.1
        have d2 : mn ≤ 10000 := by rw [HN.out.2.1]; exact HN.out.2.2.2.2
        clear e0 hy f2 hm h0 f4 n4
        go_enter Tryz.func50, Tryz.ntmps50
        go_wp2_with fail
        refine (ans_is (byDay_any D dn dc ds (decide (3 ≤ fr)) _ HL.out.d HL.out.dn HL.out.dl) P1.out).mono ?_
        rintro e w1 ⟨rfl, hb1⟩
        replace HBX := hide (andthen HBX.out hb1)
        replace HL := hide (HL.out.keep hb1)
        replace s0 := cell_keep hb1 s0
        replace s1 := cell_keep hb1 s1
        replace s2 := cell_keep hb1 s2
        replace s3 := cell_keep hb1 s3
        replace s4 := cell_keep hb1 s4
        replace s5 := cell_keep hb1 s5
        replace s6 := cell_keep hb1 s6
        clear hb1
        go_wp2_with fail
        refine (ans_is (rising_any M mn mc ms (-31) 31 _ HL.out.m HL.out.mn HL.out.ml) P2.out).mono ?_
        rintro e w1 ⟨rfl, hb1⟩
        replace HBX := hide (andthen HBX.out hb1)
        replace HL := hide (HL.out.keep hb1)
        replace s0 := cell_keep hb1 s0
        replace s1 := cell_keep hb1 s1
        replace s2 := cell_keep hb1 s2
        replace s3 := cell_keep hb1 s3
        replace s4 := cell_keep hb1 s4
        replace s5 := cell_keep hb1 s5
        replace s6 := cell_keep hb1 s6
        clear hb1
        go_wp2_with fail
        refine (ans_is (rising_any Y 0 yc ys 1 12 _ HL.out.y HL.out.yn HL.out.yl) P3.out).mono ?_
        rintro e w1 ⟨rfl, hb1⟩
        replace HBX := hide (andthen HBX.out hb1)
        replace HL := hide (HL.out.keep hb1)
        replace s0 := cell_keep hb1 s0
        replace s1 := cell_keep hb1 s1
        replace s2 := cell_keep hb1 s2
        replace s3 := cell_keep hb1 s3
        replace s4 := cell_keep hb1 s4
        replace s5 := cell_keep hb1 s5
        replace s6 := cell_keep hb1 s6
        clear hb1
        go_wp2_with fail
        go_ret
        exact ⟨ret_bool (by rw [e.out, ← HM.out]; try simp), HBX.out⟩
    have n4 : (fr == 4) = false := by rw [beq_eq_false_iff_ne]; exact f4
    have n5 : (fr != 4) = true := by rw [bne, n4]; rfl
    have e := hide (show isB ⟨fr, ev, ct, un, ds, ms, ys⟩ = true by rw [e0, if_neg (fun h => f2 h.1), decide_eq_true f4]; rfl)
    clear e0 f2 f4 h0
    go_enter Tryz.func50, Tryz.ntmps50
    go_wp2_with fail
    refine (ans_is (byDay_any D dn dc ds (decide (3 ≤ fr)) _ HL.out.d HL.out.dn HL.out.dl) P1.out).mono ?_
    rintro e w1 ⟨rfl, hb1⟩
    replace HBX := hide (andthen HBX.out hb1)
    replace HL := hide (HL.out.keep hb1)
    replace s0 := cell_keep hb1 s0
    replace s1 := cell_keep hb1 s1
    replace s2 := cell_keep hb1 s2
    replace s3 := cell_keep hb1 s3
    replace s4 := cell_keep hb1 s4
    replace s5 := cell_keep hb1 s5
    replace s6 := cell_keep hb1 s6
    clear hb1
    go_wp2_with fail
    refine (ans_is (rising_any M mn mc ms (-31) 31 _ HL.out.m HL.out.mn HL.out.ml) P2.out).mono ?_
    rintro e w1 ⟨rfl, hb1⟩
    replace HBX := hide (andthen HBX.out hb1)
    replace HL := hide (HL.out.keep hb1)
    replace s0 := cell_keep hb1 s0
    replace s1 := cell_keep hb1 s1
    replace s2 := cell_keep hb1 s2
    replace s3 := cell_keep hb1 s3
    replace s4 := cell_keep hb1 s4
    replace s5 := cell_keep hb1 s5
    replace s6 := cell_keep hb1 s6
    clear hb1
    go_wp2_with fail
    refine (ans_is (rising_any Y yn yc ys 1 12 _ HL.out.y HL.out.yn HL.out.yl) P3.out).mono ?_
    rintro e w1 ⟨rfl, hb1⟩
    replace HBX := hide (andthen HBX.out hb1)
    replace HL := hide (HL.out.keep hb1)
    replace s0 := cell_keep hb1 s0
    replace s1 := cell_keep hb1 s1
    replace s2 := cell_keep hb1 s2
    replace s3 := cell_keep hb1 s3
    replace s4 := cell_keep hb1 s4
    replace s5 := cell_keep hb1 s5
    replace s6 := cell_keep hb1 s6
    clear hb1
    go_wp2_with fail
    go_ret
    exact ⟨ret_bool (by rw [e.out]), HBX.out⟩
  cases k10 : decide (0 ≤ un)
  · have q1 : ¬ fr < 1 := by simpa using k1
    have q2 : ¬ 4 < fr := by simpa using k2
    have q3 : ¬ ev < 1 := by simpa using k3
    have q4 : ¬ 100 < ev := by simpa using k4
    have q5 : ¬ ct < 0 := by simpa using k5
    have q6 : ¬ 40 < ct := by simpa using k6
    have q7 : ¬ un < -1 := by simpa using k7
    have q8 : ¬ 52596000 ≤ un := by simpa using k8
    have q9 : ¬ 0 ≤ un := by simpa using k10
    have hr : rngB fr ev ct un = true := by rw [rng_iff]; omega
    clear q1 q2 q3 q4 q5 q6 q7 q8 q9
    cases p1 : byDayB ds (decide (3 ≤ fr))
    · have hl : (byDayB ds (decide (3 ≤ fr)) && (risB ms (-31) 31 && risB ys 1 12)) = false := by simp [p1]
      have e := hide (show isB ⟨fr, ev, ct, un, ds, ms, ys⟩ = false by rw [← isR_eq]; unfold isR; rw [if_neg h0, if_neg (show ¬ rangeB ⟨fr, ev, ct, un, ds, ms, ys⟩ = false from by rw [show rangeB ⟨fr, ev, ct, un, ds, ms, ys⟩ = true from hr]; simp), if_pos hl])
      have P1 := hide p1
      clear hl hr h0 p1
      go_enter Tryz.func50, Tryz.ntmps50
      go_wp2_with fail
      refine (ans_is (byDay_any D dn dc ds (decide (3 ≤ fr)) _ HL.out.d HL.out.dn HL.out.dl) P1.out).mono ?_
      rintro e w1 ⟨rfl, hb1⟩
      replace HBX := hide (andthen HBX.out hb1)
      clear hb1
      go_wp2_with fail
      go_ret
      exact ⟨ret_bool (by rw [e.out]), HBX.out⟩
    cases p2 : risB ms (-31) 31
    · have hl : (byDayB ds (decide (3 ≤ fr)) && (risB ms (-31) 31 && risB ys 1 12)) = false := by simp [p1, p2]
      have e := hide (show isB ⟨fr, ev, ct, un, ds, ms, ys⟩ = false by rw [← isR_eq]; unfold isR; rw [if_neg h0, if_neg (show ¬ rangeB ⟨fr, ev, ct, un, ds, ms, ys⟩ = false from by rw [show rangeB ⟨fr, ev, ct, un, ds, ms, ys⟩ = true from hr]; simp), if_pos hl])
      have P1 := hide p1
      have P2 := hide p2
      clear hl hr h0 p1 p2
      go_enter Tryz.func50, Tryz.ntmps50
      go_wp2_with fail
      refine (ans_is (byDay_any D dn dc ds (decide (3 ≤ fr)) _ HL.out.d HL.out.dn HL.out.dl) P1.out).mono ?_
      rintro e w1 ⟨rfl, hb1⟩
      replace HBX := hide (andthen HBX.out hb1)
      replace HL := hide (HL.out.keep hb1)
      replace s0 := cell_keep hb1 s0
      replace s1 := cell_keep hb1 s1
      replace s2 := cell_keep hb1 s2
      replace s3 := cell_keep hb1 s3
      replace s4 := cell_keep hb1 s4
      replace s5 := cell_keep hb1 s5
      replace s6 := cell_keep hb1 s6
      clear hb1
      go_wp2_with fail
      refine (ans_is (rising_any M mn mc ms (-31) 31 _ HL.out.m HL.out.mn HL.out.ml) P2.out).mono ?_
      rintro e w1 ⟨rfl, hb1⟩
      replace HBX := hide (andthen HBX.out hb1)
      clear hb1
      go_wp2_with fail
      go_ret
      exact ⟨ret_bool (by rw [e.out]), HBX.out⟩
    cases p3 : risB ys 1 12
    · have hl : (byDayB ds (decide (3 ≤ fr)) && (risB ms (-31) 31 && risB ys 1 12)) = false := by simp [p1, p2, p3]
      have e := hide (show isB ⟨fr, ev, ct, un, ds, ms, ys⟩ = false by rw [← isR_eq]; unfold isR; rw [if_neg h0, if_neg (show ¬ rangeB ⟨fr, ev, ct, un, ds, ms, ys⟩ = false from by rw [show rangeB ⟨fr, ev, ct, un, ds, ms, ys⟩ = true from hr]; simp), if_pos hl])
      have P1 := hide p1
      have P2 := hide p2
      have P3 := hide p3
      clear hl hr h0 p1 p2 p3
      go_enter Tryz.func50, Tryz.ntmps50
      go_wp2_with fail
      refine (ans_is (byDay_any D dn dc ds (decide (3 ≤ fr)) _ HL.out.d HL.out.dn HL.out.dl) P1.out).mono ?_
      rintro e w1 ⟨rfl, hb1⟩
      replace HBX := hide (andthen HBX.out hb1)
      replace HL := hide (HL.out.keep hb1)
      replace s0 := cell_keep hb1 s0
      replace s1 := cell_keep hb1 s1
      replace s2 := cell_keep hb1 s2
      replace s3 := cell_keep hb1 s3
      replace s4 := cell_keep hb1 s4
      replace s5 := cell_keep hb1 s5
      replace s6 := cell_keep hb1 s6
      clear hb1
      go_wp2_with fail
      refine (ans_is (rising_any M mn mc ms (-31) 31 _ HL.out.m HL.out.mn HL.out.ml) P2.out).mono ?_
      rintro e w1 ⟨rfl, hb1⟩
      replace HBX := hide (andthen HBX.out hb1)
      replace HL := hide (HL.out.keep hb1)
      replace s0 := cell_keep hb1 s0
      replace s1 := cell_keep hb1 s1
      replace s2 := cell_keep hb1 s2
      replace s3 := cell_keep hb1 s3
      replace s4 := cell_keep hb1 s4
      replace s5 := cell_keep hb1 s5
      replace s6 := cell_keep hb1 s6
      clear hb1
      go_wp2_with fail
      refine (ans_is (rising_any Y yn yc ys 1 12 _ HL.out.y HL.out.yn HL.out.yl) P3.out).mono ?_
      rintro e w1 ⟨rfl, hb1⟩
      replace HBX := hide (andthen HBX.out hb1)
      clear hb1
      go_wp2_with fail
      go_ret
      exact ⟨ret_bool (by rw [e.out]), HBX.out⟩
    have e0 : isB ⟨fr, ev, ct, un, ds, ms, ys⟩ = (if fr = 2 ∧ 0 < ms.length then false else decide (fr ≠ 4) || (decide (0 < ys.length) || decide (ds.length + ms.length = 0))) := by
      rw [← isR_eq]; unfold isR; rw [if_neg h0, if_neg (show ¬ rangeB ⟨fr, ev, ct, un, ds, ms, ys⟩ = false from by rw [show rangeB ⟨fr, ev, ct, un, ds, ms, ys⟩ = true from hr]; simp), if_neg (show ¬ (byDayB ds (decide (3 ≤ fr)) && (risB ms (-31) 31 && risB ys 1 12)) = false from by simp only [p1, p2, p3]; simp)]
    have P1 := hide p1
    have P2 := hide p2
    have P3 := hide p3
    have HN := hide (And.intro HL.out.dn (And.intro HL.out.mn (And.intro HL.out.yn (And.intro HL.out.dl HL.out.ml))))
    clear hr p1 p2 p3
    by_cases f2 : fr = 2
    · have g5 : (fr == 2) = true := beq_iff_eq.2 f2
      have g6 : (fr != 4) = true := by rw [bne_iff_ne]; omega
      have f4 : fr ≠ 4 := by omega
      by_cases hm : 0 < ms.length
      · have e := hide (show isB ⟨fr, ev, ct, un, ds, ms, ys⟩ = false by rw [e0, if_pos ⟨f2, hm⟩])
        have g0 : 0 < mn := by rw [HN.out.2.1]; exact hm
        have g1 : decide (0 < (mn : Int)) = true := decide_eq_true (by omega)
        have g2 : decide (0 < mn) = true := decide_eq_true g0
        clear e0 hm h0 f2 f4
        go_enter Tryz.func50, Tryz.ntmps50
        go_wp2_with fail
        refine (ans_is (byDay_any D dn dc ds (decide (3 ≤ fr)) _ HL.out.d HL.out.dn HL.out.dl) P1.out).mono ?_
        rintro e w1 ⟨rfl, hb1⟩
        replace HBX := hide (andthen HBX.out hb1)
        replace HL := hide (HL.out.keep hb1)
        replace s0 := cell_keep hb1 s0
        replace s1 := cell_keep hb1 s1
        replace s2 := cell_keep hb1 s2
        replace s3 := cell_keep hb1 s3
        replace s4 := cell_keep hb1 s4
        replace s5 := cell_keep hb1 s5
        replace s6 := cell_keep hb1 s6
        clear hb1
        go_wp2_with fail
        refine (ans_is (rising_any M mn mc ms (-31) 31 _ HL.out.m HL.out.mn HL.out.ml) P2.out).mono ?_
        rintro e w1 ⟨rfl, hb1⟩
        replace HBX := hide (andthen HBX.out hb1)
        replace HL := hide (HL.out.keep hb1)
        replace s0 := cell_keep hb1 s0
        replace s1 := cell_keep hb1 s1
        replace s2 := cell_keep hb1 s2
        replace s3 := cell_keep hb1 s3
        replace s4 := cell_keep hb1 s4
        replace s5 := cell_keep hb1 s5
        replace s6 := cell_keep hb1 s6
        clear hb1
        go_wp2_with fail
        refine (ans_is (rising_any Y yn yc ys 1 12 _ HL.out.y HL.out.yn HL.out.yl) P3.out).mono ?_
        rintro e w1 ⟨rfl, hb1⟩
        replace HBX := hide (andthen HBX.out hb1)
        replace HL := hide (HL.out.keep hb1)
        replace s0 := cell_keep hb1 s0
        replace s1 := cell_keep hb1 s1
        replace s2 := cell_keep hb1 s2
        replace s3 := cell_keep hb1 s3
        replace s4 := cell_keep hb1 s4
        replace s5 := cell_keep hb1 s5
        replace s6 := cell_keep hb1 s6
        clear hb1
        go_wp2_with fail
        go_ret
        exact ⟨ret_bool (by rw [e.out]), HBX.out⟩
      · have e := hide (show isB ⟨fr, ev, ct, un, ds, ms, ys⟩ = true by rw [e0, if_neg (fun h => hm h.2), decide_eq_true f4]; rfl)
        obtain rfl : mn = 0 := by rw [HN.out.2.1]; omega
        clear e0 hm h0 f2 f4
        go_enter Tryz.func50, Tryz.ntmps50
        go_wp2_with fail
        refine (ans_is (byDay_any D dn dc ds (decide (3 ≤ fr)) _ HL.out.d HL.out.dn HL.out.dl) P1.out).mono ?_
        rintro e w1 ⟨rfl, hb1⟩
        replace HBX := hide (andthen HBX.out hb1)
        replace HL := hide (HL.out.keep hb1)
        replace s0 := cell_keep hb1 s0
        replace s1 := cell_keep hb1 s1
        replace s2 := cell_keep hb1 s2
        replace s3 := cell_keep hb1 s3
        replace s4 := cell_keep hb1 s4
        replace s5 := cell_keep hb1 s5
        replace s6 := cell_keep hb1 s6
        clear hb1
        go_wp2_with fail
        refine (ans_is (rising_any M 0 mc ms (-31) 31 _ HL.out.m HL.out.mn HL.out.ml) P2.out).mono ?_
        rintro e w1 ⟨rfl, hb1⟩
        replace HBX := hide (andthen HBX.out hb1)
        replace HL := hide (HL.out.keep hb1)
        replace s0 := cell_keep hb1 s0
        replace s1 := cell_keep hb1 s1
        replace s2 := cell_keep hb1 s2
        replace s3 := cell_keep hb1 s3
        replace s4 := cell_keep hb1 s4
        replace s5 := cell_keep hb1 s5
        replace s6 := cell_keep hb1 s6
        clear hb1
        go_wp2_with fail
        refine (ans_is (rising_any Y yn yc ys 1 12 _ HL.out.y HL.out.yn HL.out.yl) P3.out).mono ?_
        rintro e w1 ⟨rfl, hb1⟩
        replace HBX := hide (andthen HBX.out hb1)
        replace HL := hide (HL.out.keep hb1)
        replace s0 := cell_keep hb1 s0
        replace s1 := cell_keep hb1 s1
        replace s2 := cell_keep hb1 s2
        replace s3 := cell_keep hb1 s3
        replace s4 := cell_keep hb1 s4
        replace s5 := cell_keep hb1 s5
        replace s6 := cell_keep hb1 s6
        clear hb1
        go_wp2_with fail
        go_ret
        exact ⟨ret_bool (by rw [e.out]), HBX.out⟩
    have n2 : (fr == 2) = false := by rw [beq_eq_false_iff_ne]; exact f2
    by_cases f4 : fr = 4
    · have g6 : (fr != 4) = false := by rw [bne, beq_iff_eq.2 f4]; rfl
      have n4 : ¬ fr ≠ 4 := fun h => h f4
      by_cases hy : 0 < ys.length
      · have e := hide (show isB ⟨fr, ev, ct, un, ds, ms, ys⟩ = true by rw [e0, if_neg (fun h => f2 h.1), decide_eq_true hy, decide_eq_false n4]; rfl)
        have g0 : 0 < yn := by rw [HN.out.2.2.1]; exact hy
        have g1 : decide (0 < (yn : Int)) = true := decide_eq_true (by omega)
        have g2 : decide (0 < yn) = true := decide_eq_true g0
        clear e0 hy f2 h0 f4 n4
        go_enter Tryz.func50, Tryz.ntmps50
        go_wp2_with fail
        refine (ans_is (byDay_any D dn dc ds (decide (3 ≤ fr)) _ HL.out.d HL.out.dn HL.out.dl) P1.out).mono ?_
        rintro e w1 ⟨rfl, hb1⟩
        replace HBX := hide (andthen HBX.out hb1)
        replace HL := hide (HL.out.keep hb1)
        replace s0 := cell_keep hb1 s0
        replace s1 := cell_keep hb1 s1
        replace s2 := cell_keep hb1 s2
        replace s3 := cell_keep hb1 s3
        replace s4 := cell_keep hb1 s4
        replace s5 := cell_keep hb1 s5
        replace s6 := cell_keep hb1 s6
        clear hb1
        go_wp2_with fail
        refine (ans_is (rising_any M mn mc ms (-31) 31 _ HL.out.m HL.out.mn HL.out.ml) P2.out).mono ?_
        rintro e w1 ⟨rfl, hb1⟩
        replace HBX := hide (andthen HBX.out hb1)
        replace HL := hide (HL.out.keep hb1)
        replace s0 := cell_keep hb1 s0
        replace s1 := cell_keep hb1 s1
        replace s2 := cell_keep hb1 s2
        replace s3 := cell_keep hb1 s3
        replace s4 := cell_keep hb1 s4
        replace s5 := cell_keep hb1 s5
        replace s6 := cell_keep hb1 s6
        clear hb1
        go_wp2_with fail
        refine (ans_is (rising_any Y yn yc ys 1 12 _ HL.out.y HL.out.yn HL.out.yl) P3.out).mono ?_
        rintro e w1 ⟨rfl, hb1⟩
        replace HBX := hide (andthen HBX.out hb1)
        replace HL := hide (HL.out.keep hb1)
        replace s0 := cell_keep hb1 s0
        replace s1 := cell_keep hb1 s1
        replace s2 := cell_keep hb1 s2
        replace s3 := cell_keep hb1 s3
        replace s4 := cell_keep hb1 s4
        replace s5 := cell_keep hb1 s5
        replace s6 := cell_keep hb1 s6
        clear hb1
        go_wp2_with fail
        go_ret
        exact ⟨ret_bool (by rw [e.out]), HBX.out⟩
      · have e := hide (show isB ⟨fr, ev, ct, un, ds, ms, ys⟩ = decide (ds.length + ms.length = 0) by rw [e0, if_neg (fun h => f2 h.1), decide_eq_false hy, decide_eq_false n4]; rfl)
        obtain rfl : yn = 0 := by rw [HN.out.2.2.1]; omega
        have hm : (((dn : Int) + (mn : Int)) == 0) = decide (ds.length + ms.length = 0) := by
          rw [HN.out.1, HN.out.2.1]
          by_cases hz : ds.length + ms.length = 0
          · rw [decide_eq_true hz, beq_iff_eq]; omega
          · rw [decide_eq_false hz, beq_eq_false_iff_ne]; omega
        have HM := hide hm
        have d1 : dn ≤ 10000 := by rw [HN.out.1]; exact HN.out.2.2.2.1
        have d2 : mn ≤ 10000 := by rw [HN.out.2.1]; exact HN.out.2.2.2.2
        clear e0 hy f2 hm h0 f4 n4
        go_enter Tryz.func50, Tryz.ntmps50
        go_wp2_with fail
        refine (ans_is (byDay_any D dn dc ds (decide (3 ≤ fr)) _ HL.out.d HL.out.dn HL.out.dl) P1.out).mono ?_
        rintro e w1 ⟨rfl, hb1⟩
        replace HBX := hide (andthen HBX.out hb1)
        replace HL := hide (HL.out.keep hb1)
        replace s0 := cell_keep hb1 s0
        replace s1 := cell_keep hb1 s1
        replace s2 := cell_keep hb1 s2
        replace s3 := cell_keep hb1 s3
        replace s4 := cell_keep hb1 s4
        replace s5 := cell_keep hb1 s5
        replace s6 := cell_keep hb1 s6
        clear hb1
        go_wp2_with fail
        refine (ans_is (rising_any M mn mc ms (-31) 31 _ HL.out.m HL.out.mn HL.out.ml) P2.out).mono ?_
        rintro e w1 ⟨rfl, hb1⟩
        replace HBX := hide (andthen HBX.out hb1)
        replace HL := hide (HL.out.keep hb1)
        replace s0 := cell_keep hb1 s0
        replace s1 := cell_keep hb1 s1
        replace s2 := cell_keep hb1 s2
        replace s3 := cell_keep hb1 s3
        replace s4 := cell_keep hb1 s4
        replace s5 := cell_keep hb1 s5
        replace s6 := cell_keep hb1 s6
        clear hb1
        go_wp2_with fail
        refine (ans_is (rising_any Y 0 yc ys 1 12 _ HL.out.y HL.out.yn HL.out.yl) P3.out).mono ?_
        rintro e w1 ⟨rfl, hb1⟩
        replace HBX := hide (andthen HBX.out hb1)
        replace HL := hide (HL.out.keep hb1)
        replace s0 := cell_keep hb1 s0
        replace s1 := cell_keep hb1 s1
        replace s2 := cell_keep hb1 s2
        replace s3 := cell_keep hb1 s3
        replace s4 := cell_keep hb1 s4
        replace s5 := cell_keep hb1 s5
        replace s6 := cell_keep hb1 s6
        clear hb1
        go_wp2_with fail
        go_ret
        exact ⟨ret_bool (by rw [e.out, ← HM.out]; try simp), HBX.out⟩
    have n4 : (fr == 4) = false := by rw [beq_eq_false_iff_ne]; exact f4
    have n5 : (fr != 4) = true := by rw [bne, n4]; rfl
    have e := hide (show isB ⟨fr, ev, ct, un, ds, ms, ys⟩ = true by rw [e0, if_neg (fun h => f2 h.1), decide_eq_true f4]; rfl)
    clear e0 f2 f4 h0
    go_enter Tryz.func50, Tryz.ntmps50
    go_wp2_with fail
    refine (ans_is (byDay_any D dn dc ds (decide (3 ≤ fr)) _ HL.out.d HL.out.dn HL.out.dl) P1.out).mono ?_
    rintro e w1 ⟨rfl, hb1⟩
    replace HBX := hide (andthen HBX.out hb1)
    replace HL := hide (HL.out.keep hb1)
    replace s0 := cell_keep hb1 s0
    replace s1 := cell_keep hb1 s1
    replace s2 := cell_keep hb1 s2
    replace s3 := cell_keep hb1 s3
    replace s4 := cell_keep hb1 s4
    replace s5 := cell_keep hb1 s5
    replace s6 := cell_keep hb1 s6
    clear hb1
    go_wp2_with fail
    refine (ans_is (rising_any M mn mc ms (-31) 31 _ HL.out.m HL.out.mn HL.out.ml) P2.out).mono ?_
    rintro e w1 ⟨rfl, hb1⟩
    replace HBX := hide (andthen HBX.out hb1)
    replace HL := hide (HL.out.keep hb1)
    replace s0 := cell_keep hb1 s0
    replace s1 := cell_keep hb1 s1
    replace s2 := cell_keep hb1 s2
    replace s3 := cell_keep hb1 s3
    replace s4 := cell_keep hb1 s4
    replace s5 := cell_keep hb1 s5
    replace s6 := cell_keep hb1 s6
    clear hb1
    go_wp2_with fail
    refine (ans_is (rising_any Y yn yc ys 1 12 _ HL.out.y HL.out.yn HL.out.yl) P3.out).mono ?_
    rintro e w1 ⟨rfl, hb1⟩
    replace HBX := hide (andthen HBX.out hb1)
    replace HL := hide (HL.out.keep hb1)
    replace s0 := cell_keep hb1 s0
    replace s1 := cell_keep hb1 s1
    replace s2 := cell_keep hb1 s2
    replace s3 := cell_keep hb1 s3
    replace s4 := cell_keep hb1 s4
    replace s5 := cell_keep hb1 s5
    replace s6 := cell_keep hb1 s6
    clear hb1
    go_wp2_with fail
    go_ret
    exact ⟨ret_bool (by rw [e.out]), HBX.out⟩
  · have q1 : ¬ fr < 1 := by simpa using k1
    have q2 : ¬ 4 < fr := by simpa using k2
    have q3 : ¬ ev < 1 := by simpa using k3
    have q4 : ¬ 100 < ev := by simpa using k4
    have q5 : ¬ ct < 0 := by simpa using k5
    have q6 : ¬ 40 < ct := by simpa using k6
    have q7 : ¬ un < -1 := by simpa using k7
    have q8 : ¬ 52596000 ≤ un := by simpa using k8
    have q9 : 0 < ct := by simpa using k9
    have q10 : 0 ≤ un := by simpa using k10
    have hr : rngB fr ev ct un = false := by rw [← Bool.not_eq_true, rng_iff]; omega
    have e := hide (show isB ⟨fr, ev, ct, un, ds, ms, ys⟩ = false by rw [← isR_eq]; unfold isR; rw [if_neg h0, if_pos (show rangeB ⟨fr, ev, ct, un, ds, ms, ys⟩ = false from hr)])
    clear hr h0 HL q1 q2 q3 q4 q5 q6 q7 q8 q9 q10
    go_enter Tryz.func50, Tryz.ntmps50
    go_wp2_with fail
    go_ret
    exact ⟨ret_bool (by rw [e.out]), HBX.out⟩

end Go.Proofs.YtlmdceeeahnkcaaGreatDoor.R

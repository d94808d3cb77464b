/- Walks of the reference of layer 4: Same. -/
import Derived.Test.YtdmplojfidkipaaRuS
namespace Go.Proofs.Ytdmplojfidkipaa.R
open Go.RowKit Rul Go.Sort

set_option maxRecDepth 100000 in
set_option maxHeartbeats 4000000 in
theorem same_any (fr ev ct un : Int) (D M Y : Option Addr) (dn dc mn mc yn yc : Nat) (fr2 ev2 ct2 un2 : Int) (D2 M2 Y2 : Option Addr) (dn2 dc2 mn2 mc2 yn2 yc2 : Nat) (ds : List Wd) (ms ys : List Int) (ds2 : List Wd) (ms2 ys2 : List Int) (w : World) (h : Lies w D dn M mn Y yn ds ms ys) (h2 : Lies w D2 dn2 M2 mn2 Y2 yn2 ds2 ms2 ys2) :
    Calls Try.prog 22 #[.agg #[.int .i64 fr, .int .i64 ev, .int .i64 ct, .int .i64 un, .slice D dn dc, .slice M mn mc, .slice Y yn yc], .agg #[.int .i64 fr2, .int .i64 ev2, .int .i64 ct2, .int .i64 un2, .slice D2 dn2 dc2, .slice M2 mn2 mc2, .slice Y2 yn2 yc2]] w (Ans w (.bool (sameB ⟨fr, ev, ct, un, ds, ms, ys⟩ ⟨fr2, ev2, ct2, un2, ds2, ms2, ys2⟩))) := by
  obtain rfl := h.dn
  obtain rfl := h.mn
  obtain rfl := h.yn
  obtain rfl := h2.dn
  obtain rfl := h2.mn
  obtain rfl := h2.yn
  have HBX := hide (more (more (start w) (.cells #[.int .i64 fr, .int .i64 ev, .int .i64 ct, .int .i64 un, .slice D ds.length dc, .slice M ms.length mc, .slice Y ys.length yc] 25)) (.cells #[.int .i64 fr2, .int .i64 ev2, .int .i64 ct2, .int .i64 un2, .slice D2 ds2.length dc2, .slice M2 ms2.length mc2, .slice Y2 ys2.length yc2] 25))
  have s0 : ((w.alloc (.cells #[.int .i64 fr, .int .i64 ev, .int .i64 ct, .int .i64 un, .slice D ds.length dc, .slice M ms.length mc, .slice Y ys.length yc] 25)).alloc (.cells #[.int .i64 fr2, .int .i64 ev2, .int .i64 ct2, .int .i64 un2, .slice D2 ds2.length dc2, .slice M2 ms2.length mc2, .slice Y2 ys2.length yc2] 25)).cell? ⟨w.heap.size, 0, none⟩ = some (.int .i64 fr) := by rw [World.cell?_alloc_past _ _ _ (by simp), World.cell?_alloc_at _ _ _ _ rfl]; rfl
  have s1 : ((w.alloc (.cells #[.int .i64 fr, .int .i64 ev, .int .i64 ct, .int .i64 un, .slice D ds.length dc, .slice M ms.length mc, .slice Y ys.length yc] 25)).alloc (.cells #[.int .i64 fr2, .int .i64 ev2, .int .i64 ct2, .int .i64 un2, .slice D2 ds2.length dc2, .slice M2 ms2.length mc2, .slice Y2 ys2.length yc2] 25)).cell? ⟨w.heap.size, 1, none⟩ = some (.int .i64 ev) := by rw [World.cell?_alloc_past _ _ _ (by simp), World.cell?_alloc_at _ _ _ _ rfl]; rfl
  have s2 : ((w.alloc (.cells #[.int .i64 fr, .int .i64 ev, .int .i64 ct, .int .i64 un, .slice D ds.length dc, .slice M ms.length mc, .slice Y ys.length yc] 25)).alloc (.cells #[.int .i64 fr2, .int .i64 ev2, .int .i64 ct2, .int .i64 un2, .slice D2 ds2.length dc2, .slice M2 ms2.length mc2, .slice Y2 ys2.length yc2] 25)).cell? ⟨w.heap.size, 2, none⟩ = some (.int .i64 ct) := by rw [World.cell?_alloc_past _ _ _ (by simp), World.cell?_alloc_at _ _ _ _ rfl]; rfl
  have s3 : ((w.alloc (.cells #[.int .i64 fr, .int .i64 ev, .int .i64 ct, .int .i64 un, .slice D ds.length dc, .slice M ms.length mc, .slice Y ys.length yc] 25)).alloc (.cells #[.int .i64 fr2, .int .i64 ev2, .int .i64 ct2, .int .i64 un2, .slice D2 ds2.length dc2, .slice M2 ms2.length mc2, .slice Y2 ys2.length yc2] 25)).cell? ⟨w.heap.size, 3, none⟩ = some (.int .i64 un) := by rw [World.cell?_alloc_past _ _ _ (by simp), World.cell?_alloc_at _ _ _ _ rfl]; rfl
  have s4 : ((w.alloc (.cells #[.int .i64 fr, .int .i64 ev, .int .i64 ct, .int .i64 un, .slice D ds.length dc, .slice M ms.length mc, .slice Y ys.length yc] 25)).alloc (.cells #[.int .i64 fr2, .int .i64 ev2, .int .i64 ct2, .int .i64 un2, .slice D2 ds2.length dc2, .slice M2 ms2.length mc2, .slice Y2 ys2.length yc2] 25)).cell? ⟨w.heap.size, 4, none⟩ = some (.slice D ds.length dc) := by rw [World.cell?_alloc_past _ _ _ (by simp), World.cell?_alloc_at _ _ _ _ rfl]; rfl
  have s5 : ((w.alloc (.cells #[.int .i64 fr, .int .i64 ev, .int .i64 ct, .int .i64 un, .slice D ds.length dc, .slice M ms.length mc, .slice Y ys.length yc] 25)).alloc (.cells #[.int .i64 fr2, .int .i64 ev2, .int .i64 ct2, .int .i64 un2, .slice D2 ds2.length dc2, .slice M2 ms2.length mc2, .slice Y2 ys2.length yc2] 25)).cell? ⟨w.heap.size, 5, none⟩ = some (.slice M ms.length mc) := by rw [World.cell?_alloc_past _ _ _ (by simp), World.cell?_alloc_at _ _ _ _ rfl]; rfl
  have s6 : ((w.alloc (.cells #[.int .i64 fr, .int .i64 ev, .int .i64 ct, .int .i64 un, .slice D ds.length dc, .slice M ms.length mc, .slice Y ys.length yc] 25)).alloc (.cells #[.int .i64 fr2, .int .i64 ev2, .int .i64 ct2, .int .i64 un2, .slice D2 ds2.length dc2, .slice M2 ms2.length mc2, .slice Y2 ys2.length yc2] 25)).cell? ⟨w.heap.size, 6, none⟩ = some (.slice Y ys.length yc) := by rw [World.cell?_alloc_past _ _ _ (by simp), World.cell?_alloc_at _ _ _ _ rfl]; rfl
  have t0 : ((w.alloc (.cells #[.int .i64 fr, .int .i64 ev, .int .i64 ct, .int .i64 un, .slice D ds.length dc, .slice M ms.length mc, .slice Y ys.length yc] 25)).alloc (.cells #[.int .i64 fr2, .int .i64 ev2, .int .i64 ct2, .int .i64 un2, .slice D2 ds2.length dc2, .slice M2 ms2.length mc2, .slice Y2 ys2.length yc2] 25)).cell? ⟨w.heap.size + 1, 0, none⟩ = some (.int .i64 fr2) := by rw [World.cell?_alloc_at _ _ _ _ (by simp)]; rfl
  have t1 : ((w.alloc (.cells #[.int .i64 fr, .int .i64 ev, .int .i64 ct, .int .i64 un, .slice D ds.length dc, .slice M ms.length mc, .slice Y ys.length yc] 25)).alloc (.cells #[.int .i64 fr2, .int .i64 ev2, .int .i64 ct2, .int .i64 un2, .slice D2 ds2.length dc2, .slice M2 ms2.length mc2, .slice Y2 ys2.length yc2] 25)).cell? ⟨w.heap.size + 1, 1, none⟩ = some (.int .i64 ev2) := by rw [World.cell?_alloc_at _ _ _ _ (by simp)]; rfl
  have t2 : ((w.alloc (.cells #[.int .i64 fr, .int .i64 ev, .int .i64 ct, .int .i64 un, .slice D ds.length dc, .slice M ms.length mc, .slice Y ys.length yc] 25)).alloc (.cells #[.int .i64 fr2, .int .i64 ev2, .int .i64 ct2, .int .i64 un2, .slice D2 ds2.length dc2, .slice M2 ms2.length mc2, .slice Y2 ys2.length yc2] 25)).cell? ⟨w.heap.size + 1, 2, none⟩ = some (.int .i64 ct2) := by rw [World.cell?_alloc_at _ _ _ _ (by simp)]; rfl
  have t3 : ((w.alloc (.cells #[.int .i64 fr, .int .i64 ev, .int .i64 ct, .int .i64 un, .slice D ds.length dc, .slice M ms.length mc, .slice Y ys.length yc] 25)).alloc (.cells #[.int .i64 fr2, .int .i64 ev2, .int .i64 ct2, .int .i64 un2, .slice D2 ds2.length dc2, .slice M2 ms2.length mc2, .slice Y2 ys2.length yc2] 25)).cell? ⟨w.heap.size + 1, 3, none⟩ = some (.int .i64 un2) := by rw [World.cell?_alloc_at _ _ _ _ (by simp)]; rfl
  have t4 : ((w.alloc (.cells #[.int .i64 fr, .int .i64 ev, .int .i64 ct, .int .i64 un, .slice D ds.length dc, .slice M ms.length mc, .slice Y ys.length yc] 25)).alloc (.cells #[.int .i64 fr2, .int .i64 ev2, .int .i64 ct2, .int .i64 un2, .slice D2 ds2.length dc2, .slice M2 ms2.length mc2, .slice Y2 ys2.length yc2] 25)).cell? ⟨w.heap.size + 1, 4, none⟩ = some (.slice D2 ds2.length dc2) := by rw [World.cell?_alloc_at _ _ _ _ (by simp)]; rfl
  have t5 : ((w.alloc (.cells #[.int .i64 fr, .int .i64 ev, .int .i64 ct, .int .i64 un, .slice D ds.length dc, .slice M ms.length mc, .slice Y ys.length yc] 25)).alloc (.cells #[.int .i64 fr2, .int .i64 ev2, .int .i64 ct2, .int .i64 un2, .slice D2 ds2.length dc2, .slice M2 ms2.length mc2, .slice Y2 ys2.length yc2] 25)).cell? ⟨w.heap.size + 1, 5, none⟩ = some (.slice M2 ms2.length mc2) := by rw [World.cell?_alloc_at _ _ _ _ (by simp)]; rfl
  have t6 : ((w.alloc (.cells #[.int .i64 fr, .int .i64 ev, .int .i64 ct, .int .i64 un, .slice D ds.length dc, .slice M ms.length mc, .slice Y ys.length yc] 25)).alloc (.cells #[.int .i64 fr2, .int .i64 ev2, .int .i64 ct2, .int .i64 un2, .slice D2 ds2.length dc2, .slice M2 ms2.length mc2, .slice Y2 ys2.length yc2] 25)).cell? ⟨w.heap.size + 1, 6, none⟩ = some (.slice Y2 ys2.length yc2) := by rw [World.cell?_alloc_at _ _ _ _ (by simp)]; rfl
  have HL := hide (h.keep HBX.out)
  have HL2 := hide (h2.keep HBX.out)
  clear h h2
  cases h1 : (fr == fr2)
  · have e := hide (show sameB ⟨fr, ev, ct, un, ds, ms, ys⟩ ⟨fr2, ev2, ct2, un2, ds2, ms2, ys2⟩ = false by rw [sameB_is]; simp only [h1]; rfl)
    have n1 : (fr != fr2) = true := by rw [bne, h1]; rfl
    clear h1 HL HL2 s0 s1 s2 s3 s4 s5 s6 t0 t1 t2 t3 t4 t5 t6
    go_enter Try.func22, Try.ntmps22
    go_wp2_with fail
    go_ret
    exact ⟨ret_bool (by rw [e.out]), HBX.out⟩
  cases h2 : (ev == ev2)
  · have e := hide (show sameB ⟨fr, ev, ct, un, ds, ms, ys⟩ ⟨fr2, ev2, ct2, un2, ds2, ms2, ys2⟩ = false by rw [sameB_is]; simp only [h1, h2]; rfl)
    have n1 : (fr != fr2) = false := by rw [bne, h1]; rfl
    have n2 : (ev != ev2) = true := by rw [bne, h2]; rfl
    clear h1 h2 HL HL2 s0 s1 s2 s3 s4 s5 s6 t0 t1 t2 t3 t4 t5 t6
    go_enter Try.func22, Try.ntmps22
    go_wp2_with fail
    go_ret
    exact ⟨ret_bool (by rw [e.out]), HBX.out⟩
  cases h3 : (ct == ct2)
  · have e := hide (show sameB ⟨fr, ev, ct, un, ds, ms, ys⟩ ⟨fr2, ev2, ct2, un2, ds2, ms2, ys2⟩ = false by rw [sameB_is]; simp only [h1, h2, h3]; rfl)
    have n1 : (fr != fr2) = false := by rw [bne, h1]; rfl
    have n2 : (ev != ev2) = false := by rw [bne, h2]; rfl
    have n3 : (ct != ct2) = true := by rw [bne, h3]; rfl
    clear h1 h2 h3 HL HL2 s0 s1 s2 s3 s4 s5 s6 t0 t1 t2 t3 t4 t5 t6
    go_enter Try.func22, Try.ntmps22
    go_wp2_with fail
    go_ret
    exact ⟨ret_bool (by rw [e.out]), HBX.out⟩
  cases h4 : (un == un2)
  · have e := hide (show sameB ⟨fr, ev, ct, un, ds, ms, ys⟩ ⟨fr2, ev2, ct2, un2, ds2, ms2, ys2⟩ = false by rw [sameB_is]; simp only [h1, h2, h3, h4]; rfl)
    have n1 : (fr != fr2) = false := by rw [bne, h1]; rfl
    have n2 : (ev != ev2) = false := by rw [bne, h2]; rfl
    have n3 : (ct != ct2) = false := by rw [bne, h3]; rfl
    have n4 : (un != un2) = true := by rw [bne, h4]; rfl
    clear h1 h2 h3 h4 HL HL2 s0 s1 s2 s3 s4 s5 s6 t0 t1 t2 t3 t4 t5 t6
    go_enter Try.func22, Try.ntmps22
    go_wp2_with fail
    go_ret
    exact ⟨ret_bool (by rw [e.out]), HBX.out⟩
  have n1 : (fr != fr2) = false := by rw [bne, h1]; rfl
  have n2 : (ev != ev2) = false := by rw [bne, h2]; rfl
  have n3 : (ct != ct2) = false := by rw [bne, h3]; rfl
  have n4 : (un != un2) = false := by rw [bne, h4]; rfl
  by_cases hlen : ds.length = ds2.length
  · by_cases hnil : ds = []
    · subst hnil
      have hkn : ds2 = [] := List.eq_nil_of_length_eq_zero hlen.symm
      subst hkn
      have HF : Hid (decide (([] : List Wd) = []) = true) := hide (by simp)
      go_enter Try.func22, Try.ntmps22
      go_wp2_with fail
      generalize ((w.alloc (.cells #[.int .i64 fr, .int .i64 ev, .int .i64 ct, .int .i64 un, .slice D 0 dc, .slice M ms.length mc, .slice Y ys.length yc] 25)).alloc (.cells #[.int .i64 fr2, .int .i64 ev2, .int .i64 ct2, .int .i64 un2, .slice D2 0 dc2, .slice M2 ms2.length mc2, .slice Y2 ys2.length yc2] 25)) = W at *
      refine wp_loop_rounds 1 ?_
      rw [rounds_succ]
      cases hms : decide (ms = ms2)
      · have e := hide (show sameB ⟨fr, ev, ct, un, [], ms, ys⟩ ⟨fr2, ev2, ct2, un2, [], ms2, ys2⟩ = false by rw [sameB_is]; simp only [h1, h2, h3, h4, eq3, HF.out, hms]; rfl)
        have HMS := hide hms
        clear hms h1 h2 h3 h4
        go_wp2_with fail
        refine (ans_is (eqR_any M M2 ms.length ms2.length mc mc2 ms ms2 _ HL.out.m HL2.out.m rfl rfl (by have := HL.out.ml; omega) (by have := HL2.out.ml; omega)) HMS.out).mono ?_
        rintro e w1 ⟨rfl, hb1⟩
        replace HBX := hide (andthen HBX.out hb1)
        clear hb1
        go_wp2_with fail
        go_ret
        exact ⟨ret_bool (by rw [e.out]), HBX.out⟩
      · have e := hide (show sameB ⟨fr, ev, ct, un, [], ms, ys⟩ ⟨fr2, ev2, ct2, un2, [], ms2, ys2⟩ = decide (ys = ys2) by rw [sameB_is]; simp only [h1, h2, h3, h4, eq3, HF.out, hms]; rfl)
        have HMS := hide hms
        clear hms h1 h2 h3 h4
        go_wp2_with fail
        refine (ans_is (eqR_any M M2 ms.length ms2.length mc mc2 ms ms2 _ HL.out.m HL2.out.m rfl rfl (by have := HL.out.ml; omega) (by have := HL2.out.ml; omega)) HMS.out).mono ?_
        rintro e w1 ⟨rfl, hb1⟩
        replace HBX := hide (andthen HBX.out hb1)
        replace HL := hide (HL.out.keep hb1)
        replace HL2 := hide (HL2.out.keep hb1)
        replace s6 := cell_keep hb1 s6
        replace t6 := cell_keep hb1 t6
        clear hb1
        go_wp2_with fail
        refine (eqR_any Y Y2 ys.length ys2.length yc yc2 ys ys2 _ HL.out.y HL2.out.y rfl rfl (by have := HL.out.yl; omega) (by have := HL2.out.yl; omega)).mono ?_
        rintro e w3 ⟨rfl, hb3⟩
        replace HBX := hide (andthen HBX.out hb3)
        clear hb3
        go_wp2_with fail
        go_ret
        exact ⟨ret_bool (by rw [e.out]), HBX.out⟩
    · obtain ⟨b1, o1, rfl, hb1, hc1⟩ := HL.out.d hnil
      obtain ⟨b2, o2, rfl, hb2, hc2⟩ := HL2.out.d (by rintro rfl; exact hnil (List.eq_nil_of_length_eq_zero hlen))
      have HC1 := hide hc1
      have HC2 := hide hc2
      have HE := hide hlen
      have hdl := HL.out.dl
      clear hc1 hc2 hnil
      have e1 : ((ds.length : Int) == (ds2.length : Int)) = true := by rw [beq_iff_eq]; omega
      have e2 : ((ds.length : Int) != (ds2.length : Int)) = false := by rw [bne, e1]; rfl
      have e3 : (ds.length != ds2.length) = false := by rw [bne, beq_iff_eq.2 hlen]; rfl
      clear hlen
      go_enter Try.func22, Try.ntmps22
      go_wp2_with fail
      generalize ((w.alloc (.cells #[.int .i64 fr, .int .i64 ev, .int .i64 ct, .int .i64 un, .slice (some ⟨b1, o1, none⟩) ds.length dc, .slice M ms.length mc, .slice Y ys.length yc] 25)).alloc (.cells #[.int .i64 fr2, .int .i64 ev2, .int .i64 ct2, .int .i64 un2, .slice (some ⟨b2, o2, none⟩) ds2.length dc2, .slice M2 ms2.length mc2, .slice Y2 ys2.length yc2] 25)) = W at *
      clear e1 e2 e3 n1 n2 n3 n4
      go_loopw [5] (fun i wr => ∃ j : Nat, j ≤ ds.length ∧ i = .int .i64 j ∧ ds.take j = ds2.take j ∧ Below W.heap.size W wr) (fun i _ => ds.length - (intOf i).toNat)
      case atStart => exact ⟨0, Nat.zero_le _, rfl, rfl, start _⟩
      case round =>
        obtain ⟨j, hj, rfl, heq, hbw⟩ := hrel
        have HT := hide heq
        clear heq
        replace s4 := cell_keep hbw s4
        replace t4 := cell_keep hbw t4
        by_cases hlt : j < ds.length
        · have hlk : j < ds2.length := by have := HE.out; omega
          have p1 : wr.cell? ⟨b1, o1 + j * 2, none⟩ = some (.int .i64 ds[j].1) := (hbw.cell (p := ⟨b1, _, none⟩) hb1).trans (HC1.out j hlt).1
          have p2 : wr.cell? ⟨b1, o1 + j * 2 + 1, none⟩ = some (.int .i64 ds[j].2) := (hbw.cell (p := ⟨b1, _, none⟩) hb1).trans (HC1.out j hlt).2
          have p3 : wr.cell? ⟨b2, o2 + j * 2, none⟩ = some (.int .i64 ds2[j].1) := (hbw.cell (p := ⟨b2, _, none⟩) hb2).trans (HC2.out j hlk).1
          have p4 : wr.cell? ⟨b2, o2 + j * 2 + 1, none⟩ = some (.int .i64 ds2[j].2) := (hbw.cell (p := ⟨b2, _, none⟩) hb2).trans (HC2.out j hlk).2
          have hi0 : (0 : Int) ≤ (j : Int) := by omega
          have hi1 : (j : Int) < (ds.length : Int) := by omega
          have hi2 : (j : Int) < (ds2.length : Int) := by omega
          clear s5 s6 t5 t6
          cases e1 : (ds[j].1 == ds2[j].1)
          · have HN : Hid (decide (ds = ds2) = false) := hide (decide_eq_false (take_ne hlt hlk fun h => by rw [h, beq_self_eq_true] at e1; cases e1))
            have e9 : (ds[j].1 != ds2[j].1) = true := by rw [bne, e1]; rfl
            have e := hide (show sameB ⟨fr, ev, ct, un, ds, ms, ys⟩ ⟨fr2, ev2, ct2, un2, ds2, ms2, ys2⟩ = false by rw [sameB_is]; simp only [h1, h2, h3, h4, eq3, HN.out]; rfl)
            clear h1 h2 h3 h4
            go_wp2_with fail
            go_quiet (fail)
            go_wp2_with fail
            go_ret
            exact ⟨ret_bool (by rw [e.out]), below_drawn (andthen HBX.out hbw) _⟩
          · have e8 : (ds[j].1 != ds2[j].1) = false := by rw [bne, e1]; rfl
            cases e2 : (ds[j].2 == ds2[j].2)
            · have HN : Hid (decide (ds = ds2) = false) := hide (decide_eq_false (take_ne hlt hlk fun h => by rw [h, beq_self_eq_true] at e2; cases e2))
              have e9 : (ds[j].2 != ds2[j].2) = true := by rw [bne, e2]; rfl
              have e := hide (show sameB ⟨fr, ev, ct, un, ds, ms, ys⟩ ⟨fr2, ev2, ct2, un2, ds2, ms2, ys2⟩ = false by rw [sameB_is]; simp only [h1, h2, h3, h4, eq3, HN.out]; rfl)
              clear h1 h2 h3 h4
              go_wp2_with fail
              go_quiet (fail)
              go_wp2_with fail
              go_ret
              exact ⟨ret_bool (by rw [e.out]), below_drawn (andthen HBX.out hbw) _⟩
            · have e9 : (ds[j].2 != ds2[j].2) = false := by rw [bne, e2]; rfl
              have HN : Hid (ds.take (j + 1) = ds2.take (j + 1)) := by
                show ds.take (j + 1) = ds2.take (j + 1)
                rw [List.take_succ_eq_append_getElem hlt, List.take_succ_eq_append_getElem hlk, HT.out]
                congr 2
                exact Prod.ext (by simpa using e1) (by simpa using e2)
              clear h1 h2 h3 h4
              go_wp2_with fail
              go_quiet (fail)
              go_wp2_with fail
              go_roundw
              case rel => exact ⟨j + 1, by omega, by go_num, HN.out, below_drawn hbw _⟩
              case measure => simp [intOf]; omega
        · obtain rfl : j = ds.length := by omega
          have HF : Hid (decide (ds = ds2) = true) := hide (decide_eq_true (same_all HE.out HT.out))
          replace HBX := hide (andthen HBX.out hbw)
          replace HL := hide (HL.out.keep hbw)
          replace HL2 := hide (HL2.out.keep hbw)
          replace s5 := cell_keep hbw s5
          replace s6 := cell_keep hbw s6
          replace t5 := cell_keep hbw t5
          replace t6 := cell_keep hbw t6
          clear hbw
          cases hms : decide (ms = ms2)
          · have e := hide (show sameB ⟨fr, ev, ct, un, ds, ms, ys⟩ ⟨fr2, ev2, ct2, un2, ds2, ms2, ys2⟩ = false by rw [sameB_is]; simp only [h1, h2, h3, h4, eq3, HF.out, hms]; rfl)
            have HMS := hide hms
            clear hms h1 h2 h3 h4
            go_wp2_with fail
            refine (ans_is (eqR_any M M2 ms.length ms2.length mc mc2 ms ms2 _ HL.out.m HL2.out.m rfl rfl (by have := HL.out.ml; omega) (by have := HL2.out.ml; omega)) HMS.out).mono ?_
            rintro e w1 ⟨rfl, hb1⟩
            replace HBX := hide (andthen HBX.out hb1)
            clear hb1
            go_wp2_with fail
            go_ret
            exact ⟨ret_bool (by rw [e.out]), HBX.out⟩
          · have e := hide (show sameB ⟨fr, ev, ct, un, ds, ms, ys⟩ ⟨fr2, ev2, ct2, un2, ds2, ms2, ys2⟩ = decide (ys = ys2) by rw [sameB_is]; simp only [h1, h2, h3, h4, eq3, HF.out, hms]; rfl)
            have HMS := hide hms
            clear hms h1 h2 h3 h4
            go_wp2_with fail
            refine (ans_is (eqR_any M M2 ms.length ms2.length mc mc2 ms ms2 _ HL.out.m HL2.out.m rfl rfl (by have := HL.out.ml; omega) (by have := HL2.out.ml; omega)) HMS.out).mono ?_
            rintro e w1 ⟨rfl, hb1⟩
            replace HBX := hide (andthen HBX.out hb1)
            replace HL := hide (HL.out.keep hb1)
            replace HL2 := hide (HL2.out.keep hb1)
            replace s6 := cell_keep hb1 s6
            replace t6 := cell_keep hb1 t6
            clear hb1
            go_wp2_with fail
            refine (eqR_any Y Y2 ys.length ys2.length yc yc2 ys ys2 _ HL.out.y HL2.out.y rfl rfl (by have := HL.out.yl; omega) (by have := HL2.out.yl; omega)).mono ?_
            rintro e w3 ⟨rfl, hb3⟩
            replace HBX := hide (andthen HBX.out hb3)
            clear hb3
            go_wp2_with fail
            go_ret
            exact ⟨ret_bool (by rw [e.out]), HBX.out⟩
  · have e := hide (show sameB ⟨fr, ev, ct, un, ds, ms, ys⟩ ⟨fr2, ev2, ct2, un2, ds2, ms2, ys2⟩ = false by rw [sameB_is]; simp only [h1, h2, h3, h4, eq3, decide_eq_false (show ¬ ds = ds2 from fun hc => hlen (by rw [hc]))]; rfl)
    have e1 : ((ds.length : Int) == (ds2.length : Int)) = false := by rw [beq_eq_false_iff_ne]; omega
    have e2 : ((ds.length : Int) != (ds2.length : Int)) = true := by rw [bne, e1]; rfl
    have e3 : (ds.length != ds2.length) = true := by rw [bne, beq_eq_false_iff_ne.2 hlen]; rfl
    clear h1 h2 h3 h4 HL HL2 s0 s1 s2 s3 s4 s5 s6 t0 t1 t2 t3 t4 t5 t6
    go_enter Try.func22, Try.ntmps22
    go_wp2_with fail
    go_ret
    exact ⟨ret_bool (by rw [e.out]), HBX.out⟩

end Go.Proofs.Ytdmplojfidkipaa.R

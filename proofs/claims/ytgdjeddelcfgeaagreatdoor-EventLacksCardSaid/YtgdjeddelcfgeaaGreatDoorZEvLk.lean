/- EventLacks walked: an event's lines without one of them, with one of them twice. -/
import Derived.Test.YtgdjeddelcfgeaaGreatDoorZW15
import Derived.Test.YtgdjeddelcfgeaaGreatDoorZM3
import Derived.Test.YtgdjeddelcfgeaaGreatDoorZW16
namespace Go.Proofs.YtgdjeddelcfgeaaGreatDoor
open Go.RowKit Rul Rt Go.Sort

set_option maxRecDepth 100000 in
set_option maxHeartbeats 4000000 in
theorem lacks_true (u t : Tx) (s l : Int) (o : List Int) (fr ev ct un : Int) (ds : List Wd) (ms ys x : List Int) (m : Mem) (y : Int) (w : World) (y1 : 0 ≤ y) (y2 : y ≤ 255) (h : EvL w ⟨u, t, s, l, o, ⟨fr, ev, ct, un, ds, ms, ys⟩, x⟩ m) (he : EnvE w) (hfew : fewEB ds.length ms.length ys.length (str u).size (str t).size o.length x.length = true) (his : Ev.isE ⟨u, t, s, l, o, ⟨fr, ev, ct, un, ds, ms, ys⟩, x⟩ = true) :
    Calls Tryz.prog 6 #[.agg #[.string (str u), .string (str t), .int .i64 s, .int .i64 l, .slice m.O o.length m.oc, .int .i64 fr, .int .i64 ev, .int .i64 ct, .int .i64 un, .slice m.D ds.length m.dc, .slice m.M ms.length m.mc, .slice m.Y ys.length m.yc, .slice m.X x.length m.xc], .int .u8 y, .bool true] w (Ans w (.bool true)) := by
  have HE := hide he
  have HFEW := hide hfew
  have HBX := hide (more (start w) (.cells #[.string (str u), .string (str t), .int .i64 s, .int .i64 l, .slice m.O o.length m.oc, .int .i64 fr, .int .i64 ev, .int .i64 ct, .int .i64 un, .slice m.D ds.length m.dc, .slice m.M ms.length m.mc, .slice m.Y ys.length m.yc, .slice m.X x.length m.xc] 27))
  have hk := blk_new w #[.string (str u), .string (str t), .int .i64 s, .int .i64 l, .slice m.O o.length m.oc, .int .i64 fr, .int .i64 ev, .int .i64 ct, .int .i64 un, .slice m.D ds.length m.dc, .slice m.M ms.length m.mc, .slice m.Y ys.length m.yc, .slice m.X x.length m.xc] 27
  have s0 := hk.cell 0 (by simp)
  have s1 := hk.cell 1 (by simp)
  have s2 := hk.cell 2 (by simp)
  have s3 := hk.cell 3 (by simp)
  have s4 := hk.cell 4 (by simp)
  have s5 := hk.cell 5 (by simp)
  have s6 := hk.cell 6 (by simp)
  have s7 := hk.cell 7 (by simp)
  have s8 := hk.cell 8 (by simp)
  have s9 := hk.cell 9 (by simp)
  have s10 := hk.cell 10 (by simp)
  have s11 := hk.cell 11 (by simp)
  have s12 := hk.cell 12 (by simp)
  simp only [List.getElem_cons_zero, List.getElem_cons_succ] at s0 s1 s2 s3 s4 s5 s6 s7 s8 s9 s10 s11 s12
  have HL := hide (h.keep HBX.out)
  have HIS := hide his
  have HI := hide ((Ev.isE_iff _).1 his)
  clear h he his hfew hk
  go_enter Tryz.func6, Tryz.ntmps6
  go_wp2_with fail
  refine (known_any _ (HE.out.keep HBX.out)).mono ?_
  rintro e w1 ⟨rfl, hb1⟩
  replace HBX := hide (andthen HBX.out hb1)
  replace HL := hide (HL.out.keep hb1)
  replace s0 := cell_keep hb1 s0
  replace s1 := cell_keep hb1 s1
  replace s2 := cell_keep hb1 s2
  replace s3 := cell_keep hb1 s3
  replace s4 := cell_keep hb1 s4
  replace s5 := cell_keep hb1 s5
  replace s6 := cell_keep hb1 s6
  replace s7 := cell_keep hb1 s7
  replace s8 := cell_keep hb1 s8
  replace s9 := cell_keep hb1 s9
  replace s10 := cell_keep hb1 s10
  replace s11 := cell_keep hb1 s11
  replace s12 := cell_keep hb1 s12
  clear hb1
  go_wp2_with fail
  refine (ans_is (fewE_any (str u) (str t) s l m.O o.length m.oc fr ev ct un m.D m.M m.Y m.X ds.length m.dc ms.length m.mc ys.length m.yc x.length m.xc _) HFEW.out).mono ?_
  rintro e w2 ⟨rfl, hb1⟩
  replace HBX := hide (andthen HBX.out hb1)
  replace HL := hide (HL.out.keep hb1)
  replace s0 := cell_keep hb1 s0
  replace s1 := cell_keep hb1 s1
  replace s2 := cell_keep hb1 s2
  replace s3 := cell_keep hb1 s3
  replace s4 := cell_keep hb1 s4
  replace s5 := cell_keep hb1 s5
  replace s6 := cell_keep hb1 s6
  replace s7 := cell_keep hb1 s7
  replace s8 := cell_keep hb1 s8
  replace s9 := cell_keep hb1 s9
  replace s10 := cell_keep hb1 s10
  replace s11 := cell_keep hb1 s11
  replace s12 := cell_keep hb1 s12
  clear hb1
  go_wp2_with fail
  refine (eis_at ⟨u, t, s, l, o, ⟨fr, ev, ct, un, ds, ms, ys⟩, x⟩ m true _ HL.out HIS.out).mono ?_
  rintro e w3 ⟨rfl, hb1⟩
  replace HBX := hide (andthen HBX.out hb1)
  replace HL := hide (HL.out.keep hb1)
  replace s0 := cell_keep hb1 s0
  replace s1 := cell_keep hb1 s1
  replace s2 := cell_keep hb1 s2
  replace s3 := cell_keep hb1 s3
  replace s4 := cell_keep hb1 s4
  replace s5 := cell_keep hb1 s5
  replace s6 := cell_keep hb1 s6
  replace s7 := cell_keep hb1 s7
  replace s8 := cell_keep hb1 s8
  replace s9 := cell_keep hb1 s9
  replace s10 := cell_keep hb1 s10
  replace s11 := cell_keep hb1 s11
  replace s12 := cell_keep hb1 s12
  clear hb1
  go_wp2_with fail
  obtain ⟨L, hL⟩ : ∃ L, Ev.linesE unU ⟨u, t, s, l, o, ⟨fr, ev, ct, un, ds, ms, ys⟩, x⟩ = L := ⟨_, rfl⟩
  have H6 := hide (Ev.six_lines unU _ HI.out)
  have HSM := hide (lines_small _ HI.out)
  have HRD := hide (fun k => Ev.lack_two unU unU_good _ HI.out k)
  rw [hL] at H6 HSM HRD
  refine (lines_some ⟨u, t, s, l, o, ⟨fr, ev, ct, un, ds, ms, ys⟩, x⟩ m _ HL.out (HE.out.keep HBX.out) L hL).mono ?_
  rintro e w4 ⟨AL, capL, rfl, _, hrow, hb1⟩
  replace HBX := hide (andthen HBX.out hb1)
  replace HL := hide (HL.out.keep hb1)
  have HR := hide hrow
  replace s0 := cell_keep hb1 s0
  replace s1 := cell_keep hb1 s1
  replace s2 := cell_keep hb1 s2
  replace s3 := cell_keep hb1 s3
  replace s4 := cell_keep hb1 s4
  replace s5 := cell_keep hb1 s5
  replace s6 := cell_keep hb1 s6
  replace s7 := cell_keep hb1 s7
  replace s8 := cell_keep hb1 s8
  replace s9 := cell_keep hb1 s9
  replace s10 := cell_keep hb1 s10
  replace s11 := cell_keep hb1 s11
  replace s12 := cell_keep hb1 s12
  clear hb1 hrow hL
  obtain ⟨M, hN⟩ : ∃ M, L.length = M + 2 := ⟨L.length - 2, by have := H6.out.1; omega⟩
  have HN := hide hN
  have n6 : 4 ≤ M := by have := H6.out.1; omega
  have n9 : M ≤ 7 := by have := H6.out.2; omega
  rw [hN] at HRD ⊢
  clear hN H6
  obtain ⟨k0, hk, hk3⟩ : ∃ k0 : Nat, y % (M : Int) = (k0 : Int) ∧ k0 < M := by
    have a1 := Int.emod_nonneg y (show (M : Int) ≠ 0 by omega)
    have a2 := Int.emod_lt_of_pos y (show (0 : Int) < (M : Int) by omega)
    exact ⟨(y % (M : Int)).toNat, by omega, by omega⟩
  obtain ⟨k, hkk⟩ : ∃ k, k0 + 1 = k := ⟨_, rfl⟩
  have hk1 : 1 ≤ k := by omega
  have hk2 : k < M + 1 := by omega
  have kk0 : (k0 : Int) + 1 = (k : Int) := by omega
  have hkt : y.tmod (M : Int) = (k0 : Int) := by rw [Int.tmod_eq_emod_of_nonneg y1]; exact hk
  have n6i : ¬ (((M + 2 : Nat) : Int) < 6) := by omega
  have n2e : ((M + 2 : Nat) : Int) - 2 = (M : Int) := by omega
  have n2i : (M : Int) ≠ 0 := by omega
  have yw : IntKind.i64.wrap y = y := IntWalk.i64_in _ (by omega)
  have HK := hide (HRD.out k hk1 (show k < M + 2 - 1 by omega))
  clear HRD
  go_wp2_with fail
  go_loopw [9, 10] (fun v i wr => ∃ j : Nat, j ≤ M + 2 ∧ i = .int .i64 j ∧ OwnS wr w4.heap.size v (Ev.lk L k true j) ∧ Below w4.heap.size w4 wr) (fun _ i _ => M + 2 - (intOf i).toNat)
  case atStart => exact ⟨0, Nat.zero_le _, rfl, ownS_nil _ _, start _⟩
  case round =>
    obtain ⟨j, hj, rfl, hown, hbw⟩ := hrel
    have HO := hide hown
    have HBR := hide hbw
    clear hown hbw
    by_cases hlt : j < M + 2
    · have hjl : j < L.length := by rw [HN.out]; exact hlt
      obtain ⟨b1, o1, rfl, hb1, hc1⟩ := HR.out (by intro h0; rw [h0] at hjl; exact absurd hjl (Nat.not_lt_zero _))
      obtain ⟨g, hg⟩ : ∃ g, L[j] = g := ⟨_, rfl⟩
      have p1 : wr.cell? ⟨b1, o1 + j, none⟩ = some (.string (str g)) := by rw [← hg]; exact (HBR.out.cell (p := ⟨b1, _, none⟩) hb1).trans (hc1 j hjl)
      have hi0 : (0 : Int) ≤ (j : Int) := by omega
      have hi1 : (j : Int) < ((M + 2 : Nat) : Int) := by omega
      have hi2 : (j : Int) < (M : Int) + 2 := by omega
      have hln : (Ev.lk L k true j).length ≤ 900000 := Nat.le_trans (Ev.lk_len _ _ _ _) (by omega)
      have hz := HBR.out.size
      have hown := HO.out
      by_cases hjk : j = k
      · subst hjk
        have e1 : ((j : Int) == (j : Int)) = true := beq_self_eq_true _
        have e2 : ((j : Int) != (j : Int)) = false := by rw [bne, e1]; rfl
        have HNX : Hid (Ev.lk L j true (j + 1) = Ev.lk L j true j ++ [g] ++ [g]) := hide (by rw [Ev.lk_two L j hjl, hg])
        generalize Ev.lk L j true j = S at *
        clear hg hc1 hjl
        go_wp2_with (first | (at_builtin; refine wp_oneS (l := S ++ [g]) (p := g) rfl _ _ rfl rfl rfl rfl hown3 hz3 (by rw [List.length_append]; simp only [List.length_singleton]; omega) ?_; intro v5 w5 hown5 hb5) | (at_builtin; refine wp_oneS (l := S) (p := g) rfl _ _ rfl rfl rfl rfl hown hz (by omega) ?_; intro v3 w3 hown3 hb3; have hz3 : w4.heap.size ≤ w3.heap.size := Nat.le_trans hz hb3.size; have p3 := (hb3.cell (p := ⟨b1, o1 + j, none⟩) hb1).trans p1))
        have HO5 := hide hown5
        have HB5 := hide ((HBR.out.trans hb3).trans hb5)
        clear hown hown3 hown5 hb3 hb5 p3
        go_wp2_with fail
        go_roundw
        case rel => exact ⟨j + 1, by omega, by go_num, by rw [HNX.out]; exact HO5.out, HB5.out⟩
        case measure => simp [intOf]; omega
      · have e1 : ((j : Int) == (k : Int)) = false := by rw [beq_eq_false_iff_ne]; omega
        have e2 : ((j : Int) != (k : Int)) = true := by rw [bne, e1]; rfl
        have HNX : Hid (Ev.lk L k true (j + 1) = Ev.lk L k true j ++ [g]) := hide (by rw [Ev.lk_other L k true j hjl hjk, hg])
        generalize Ev.lk L k true j = S at *
        clear hg hc1 hjl
        go_wp2_with (at_builtin; refine wp_oneS (l := S) (p := g) rfl _ _ rfl rfl rfl rfl hown hz (by omega) ?_; intro v3 w3 hown3 hb3; have hz3 : w4.heap.size ≤ w3.heap.size := Nat.le_trans hz hb3.size; have p3 := (hb3.cell (p := ⟨b1, o1 + j, none⟩) hb1).trans p1)
        have HO3 := hide hown3
        have HB3 := hide (HBR.out.trans hb3)
        clear hown hown3 hb3 p3
        go_wp2_with fail
        go_roundw
        case rel => exact ⟨j + 1, by omega, by go_num, by rw [HNX.out]; exact HO3.out, HB3.out⟩
        case measure => simp [intOf]; omega
    · obtain rfl : j = M + 2 := by omega
      obtain ⟨A9, cap9, rfl, hr9, _⟩ := OwnS.row HO.out
      have HR9 := hide hr9
      have h18 : (Ev.lk L k true (M + 2)).length ≤ 900 := Nat.le_trans (Ev.lk_len _ _ _ _) (by omega)
      have HMM : Hid (∀ p ∈ Ev.lk L k true (M + 2), p.length ≤ 100000) := hide (fun p hp => HSM.out p (Ev.lk_mem _ _ _ _ p hp))
      replace HBX := hide (andthen HBX.out HBR.out)
      replace HL := hide (HL.out.keep HBR.out)
      replace s0 := cell_keep HBR.out s0
      replace s1 := cell_keep HBR.out s1
      replace s2 := cell_keep HBR.out s2
      replace s3 := cell_keep HBR.out s3
      replace s4 := cell_keep HBR.out s4
      replace s5 := cell_keep HBR.out s5
      replace s6 := cell_keep HBR.out s6
      replace s7 := cell_keep HBR.out s7
      replace s8 := cell_keep HBR.out s8
      replace s9 := cell_keep HBR.out s9
      replace s10 := cell_keep HBR.out s10
      replace s11 := cell_keep HBR.out s11
      replace s12 := cell_keep HBR.out s12
      clear HO HBR hr9
      go_wp2_with fail
      refine (read_no A9 _ cap9 _ _ HR9.out rfl h18 HMM.out (HE.out.keep HBX.out) _ HK.out).mono ?_
      rintro _ w6 ⟨rfl, hb6⟩
      unfold noEvent
      replace HBX := hide (more (andthen HBX.out hb6) (.cells #[.string ⟨#[]⟩, .string ⟨#[]⟩, .int .i64 0, .int .i64 0, .slice none 0 0, .int .i64 0, .int .i64 0, .int .i64 0, .int .i64 0, .slice none 0 0, .slice none 0 0, .slice none 0 0, .slice none 0 0] 27))
      clear hb6 HL s0 s1 s2 s3 s4 s5 s6 s7 s8 s9 s10 s11 s12
      have kk : (((k + 1 : Nat) : Int) == (k : Int) + 1) = true := by rw [beq_iff_eq]; omega
      go_wp2_with fail
      go_ret
      exact ⟨rfl, HBX.out⟩
set_option maxRecDepth 100000 in
set_option maxHeartbeats 4000000 in
theorem lacks_false (u t : Tx) (s l : Int) (o : List Int) (fr ev ct un : Int) (ds : List Wd) (ms ys x : List Int) (m : Mem) (y : Int) (w : World) (y1 : 0 ≤ y) (y2 : y ≤ 255) (h : EvL w ⟨u, t, s, l, o, ⟨fr, ev, ct, un, ds, ms, ys⟩, x⟩ m) (he : EnvE w) (hfew : fewEB ds.length ms.length ys.length (str u).size (str t).size o.length x.length = true) (his : Ev.isE ⟨u, t, s, l, o, ⟨fr, ev, ct, un, ds, ms, ys⟩, x⟩ = true) :
    Calls Tryz.prog 6 #[.agg #[.string (str u), .string (str t), .int .i64 s, .int .i64 l, .slice m.O o.length m.oc, .int .i64 fr, .int .i64 ev, .int .i64 ct, .int .i64 un, .slice m.D ds.length m.dc, .slice m.M ms.length m.mc, .slice m.Y ys.length m.yc, .slice m.X x.length m.xc], .int .u8 y, .bool false] w (Ans w (.bool true)) := by
  have HE := hide he
  have HFEW := hide hfew
  have HBX := hide (more (start w) (.cells #[.string (str u), .string (str t), .int .i64 s, .int .i64 l, .slice m.O o.length m.oc, .int .i64 fr, .int .i64 ev, .int .i64 ct, .int .i64 un, .slice m.D ds.length m.dc, .slice m.M ms.length m.mc, .slice m.Y ys.length m.yc, .slice m.X x.length m.xc] 27))
  have hk := blk_new w #[.string (str u), .string (str t), .int .i64 s, .int .i64 l, .slice m.O o.length m.oc, .int .i64 fr, .int .i64 ev, .int .i64 ct, .int .i64 un, .slice m.D ds.length m.dc, .slice m.M ms.length m.mc, .slice m.Y ys.length m.yc, .slice m.X x.length m.xc] 27
  have s0 := hk.cell 0 (by simp)
  have s1 := hk.cell 1 (by simp)
  have s2 := hk.cell 2 (by simp)
  have s3 := hk.cell 3 (by simp)
  have s4 := hk.cell 4 (by simp)
  have s5 := hk.cell 5 (by simp)
  have s6 := hk.cell 6 (by simp)
  have s7 := hk.cell 7 (by simp)
  have s8 := hk.cell 8 (by simp)
  have s9 := hk.cell 9 (by simp)
  have s10 := hk.cell 10 (by simp)
  have s11 := hk.cell 11 (by simp)
  have s12 := hk.cell 12 (by simp)
  simp only [List.getElem_cons_zero, List.getElem_cons_succ] at s0 s1 s2 s3 s4 s5 s6 s7 s8 s9 s10 s11 s12
  have HL := hide (h.keep HBX.out)
  have HIS := hide his
  have HI := hide ((Ev.isE_iff _).1 his)
  clear h he his hfew hk
  go_enter Tryz.func6, Tryz.ntmps6
  go_wp2_with fail
  refine (known_any _ (HE.out.keep HBX.out)).mono ?_
  rintro e w1 ⟨rfl, hb1⟩
  replace HBX := hide (andthen HBX.out hb1)
  replace HL := hide (HL.out.keep hb1)
  replace s0 := cell_keep hb1 s0
  replace s1 := cell_keep hb1 s1
  replace s2 := cell_keep hb1 s2
  replace s3 := cell_keep hb1 s3
  replace s4 := cell_keep hb1 s4
  replace s5 := cell_keep hb1 s5
  replace s6 := cell_keep hb1 s6
  replace s7 := cell_keep hb1 s7
  replace s8 := cell_keep hb1 s8
  replace s9 := cell_keep hb1 s9
  replace s10 := cell_keep hb1 s10
  replace s11 := cell_keep hb1 s11
  replace s12 := cell_keep hb1 s12
  clear hb1
  go_wp2_with fail
  refine (ans_is (fewE_any (str u) (str t) s l m.O o.length m.oc fr ev ct un m.D m.M m.Y m.X ds.length m.dc ms.length m.mc ys.length m.yc x.length m.xc _) HFEW.out).mono ?_
  rintro e w2 ⟨rfl, hb1⟩
  replace HBX := hide (andthen HBX.out hb1)
  replace HL := hide (HL.out.keep hb1)
  replace s0 := cell_keep hb1 s0
  replace s1 := cell_keep hb1 s1
  replace s2 := cell_keep hb1 s2
  replace s3 := cell_keep hb1 s3
  replace s4 := cell_keep hb1 s4
  replace s5 := cell_keep hb1 s5
  replace s6 := cell_keep hb1 s6
  replace s7 := cell_keep hb1 s7
  replace s8 := cell_keep hb1 s8
  replace s9 := cell_keep hb1 s9
  replace s10 := cell_keep hb1 s10
  replace s11 := cell_keep hb1 s11
  replace s12 := cell_keep hb1 s12
  clear hb1
  go_wp2_with fail
  refine (eis_at ⟨u, t, s, l, o, ⟨fr, ev, ct, un, ds, ms, ys⟩, x⟩ m true _ HL.out HIS.out).mono ?_
  rintro e w3 ⟨rfl, hb1⟩
  replace HBX := hide (andthen HBX.out hb1)
  replace HL := hide (HL.out.keep hb1)
  replace s0 := cell_keep hb1 s0
  replace s1 := cell_keep hb1 s1
  replace s2 := cell_keep hb1 s2
  replace s3 := cell_keep hb1 s3
  replace s4 := cell_keep hb1 s4
  replace s5 := cell_keep hb1 s5
  replace s6 := cell_keep hb1 s6
  replace s7 := cell_keep hb1 s7
  replace s8 := cell_keep hb1 s8
  replace s9 := cell_keep hb1 s9
  replace s10 := cell_keep hb1 s10
  replace s11 := cell_keep hb1 s11
  replace s12 := cell_keep hb1 s12
  clear hb1
  go_wp2_with fail
  obtain ⟨L, hL⟩ : ∃ L, Ev.linesE unU ⟨u, t, s, l, o, ⟨fr, ev, ct, un, ds, ms, ys⟩, x⟩ = L := ⟨_, rfl⟩
  have H6 := hide (Ev.six_lines unU _ HI.out)
  have HSM := hide (lines_small _ HI.out)
  have HRD := hide (fun k => Ev.lack_gone unU unU_good _ HI.out k)
  rw [hL] at H6 HSM HRD
  refine (lines_some ⟨u, t, s, l, o, ⟨fr, ev, ct, un, ds, ms, ys⟩, x⟩ m _ HL.out (HE.out.keep HBX.out) L hL).mono ?_
  rintro e w4 ⟨AL, capL, rfl, _, hrow, hb1⟩
  replace HBX := hide (andthen HBX.out hb1)
  replace HL := hide (HL.out.keep hb1)
  have HR := hide hrow
  replace s0 := cell_keep hb1 s0
  replace s1 := cell_keep hb1 s1
  replace s2 := cell_keep hb1 s2
  replace s3 := cell_keep hb1 s3
  replace s4 := cell_keep hb1 s4
  replace s5 := cell_keep hb1 s5
  replace s6 := cell_keep hb1 s6
  replace s7 := cell_keep hb1 s7
  replace s8 := cell_keep hb1 s8
  replace s9 := cell_keep hb1 s9
  replace s10 := cell_keep hb1 s10
  replace s11 := cell_keep hb1 s11
  replace s12 := cell_keep hb1 s12
  clear hb1 hrow hL
  obtain ⟨M, hN⟩ : ∃ M, L.length = M + 2 := ⟨L.length - 2, by have := H6.out.1; omega⟩
  have HN := hide hN
  have n6 : 4 ≤ M := by have := H6.out.1; omega
  have n9 : M ≤ 7 := by have := H6.out.2; omega
  rw [hN] at HRD ⊢
  clear hN H6
  obtain ⟨k0, hk, hk3⟩ : ∃ k0 : Nat, y % (M : Int) = (k0 : Int) ∧ k0 < M := by
    have a1 := Int.emod_nonneg y (show (M : Int) ≠ 0 by omega)
    have a2 := Int.emod_lt_of_pos y (show (0 : Int) < (M : Int) by omega)
    exact ⟨(y % (M : Int)).toNat, by omega, by omega⟩
  obtain ⟨k, hkk⟩ : ∃ k, k0 + 1 = k := ⟨_, rfl⟩
  have hk1 : 1 ≤ k := by omega
  have hk2 : k < M + 1 := by omega
  have kk0 : (k0 : Int) + 1 = (k : Int) := by omega
  have hkt : y.tmod (M : Int) = (k0 : Int) := by rw [Int.tmod_eq_emod_of_nonneg y1]; exact hk
  have n6i : ¬ (((M + 2 : Nat) : Int) < 6) := by omega
  have n2e : ((M + 2 : Nat) : Int) - 2 = (M : Int) := by omega
  have n2i : (M : Int) ≠ 0 := by omega
  have yw : IntKind.i64.wrap y = y := IntWalk.i64_in _ (by omega)
  have HK : Hid (Ev.readE unU (Ev.lk L k false (M + 2)) = (none, M) ∨ ∃ x9, Ev.readE unU (Ev.lk L k false (M + 2)) = (some x9, M + 1) ∧ Ev.sameE x9 ⟨u, t, s, l, o, ⟨fr, ev, ct, un, ds, ms, ys⟩, x⟩ = false) := hide (HRD.out k hk1 (show k < M + 2 - 1 by omega))
  have HLN : Hid ((Ev.lk L k false (M + 2)).length = M + 1) := hide (by have := Ev.lk_all_gone L k (by rw [HN.out]; omega); rw [HN.out] at this; rw [this, List.length_eraseIdx_of_lt (by rw [HN.out]; omega), HN.out]; rfl)
  clear HRD
  go_wp2_with fail
  go_loopw [9, 10] (fun v i wr => ∃ j : Nat, j ≤ M + 2 ∧ i = .int .i64 j ∧ OwnS wr w4.heap.size v (Ev.lk L k false j) ∧ Below w4.heap.size w4 wr) (fun _ i _ => M + 2 - (intOf i).toNat)
  case atStart => exact ⟨0, Nat.zero_le _, rfl, ownS_nil _ _, start _⟩
  case round =>
    obtain ⟨j, hj, rfl, hown, hbw⟩ := hrel
    have HO := hide hown
    have HBR := hide hbw
    clear hown hbw
    by_cases hlt : j < M + 2
    · have hjl : j < L.length := by rw [HN.out]; exact hlt
      obtain ⟨b1, o1, rfl, hb1, hc1⟩ := HR.out (by intro h0; rw [h0] at hjl; exact absurd hjl (Nat.not_lt_zero _))
      obtain ⟨g, hg⟩ : ∃ g, L[j] = g := ⟨_, rfl⟩
      have p1 : wr.cell? ⟨b1, o1 + j, none⟩ = some (.string (str g)) := by rw [← hg]; exact (HBR.out.cell (p := ⟨b1, _, none⟩) hb1).trans (hc1 j hjl)
      have hi0 : (0 : Int) ≤ (j : Int) := by omega
      have hi1 : (j : Int) < ((M + 2 : Nat) : Int) := by omega
      have hi2 : (j : Int) < (M : Int) + 2 := by omega
      have hln : (Ev.lk L k false j).length ≤ 900000 := Nat.le_trans (Ev.lk_len _ _ _ _) (by omega)
      have hz := HBR.out.size
      have hown := HO.out
      by_cases hjk : j = k
      · have e1 : ((j : Int) == (k : Int)) = true := by rw [beq_iff_eq]; omega
        have e2 : ((j : Int) != (k : Int)) = false := by rw [bne, e1]; rfl
        have HNX : Hid (Ev.lk L k false (j + 1) = Ev.lk L k false j) := hide (by subst hjk; exact Ev.lk_gone L j hjl)
        clear hg hc1 hjl
        go_wp2_with fail
        go_roundw
        case rel => exact ⟨j + 1, by omega, by go_num, by rw [HNX.out]; exact HO.out, HBR.out⟩
        case measure => simp [intOf]; omega
      · have e1 : ((j : Int) == (k : Int)) = false := by rw [beq_eq_false_iff_ne]; omega
        have e2 : ((j : Int) != (k : Int)) = true := by rw [bne, e1]; rfl
        have HNX : Hid (Ev.lk L k false (j + 1) = Ev.lk L k false j ++ [g]) := hide (by rw [Ev.lk_other L k false j hjl hjk, hg])
        generalize Ev.lk L k false j = S at *
        clear hg hc1 hjl
        go_wp2_with (at_builtin; refine wp_oneS (l := S) (p := g) rfl _ _ rfl rfl rfl rfl hown hz (by omega) ?_; intro v3 w3 hown3 hb3; have hz3 : w4.heap.size ≤ w3.heap.size := Nat.le_trans hz hb3.size; have p3 := (hb3.cell (p := ⟨b1, o1 + j, none⟩) hb1).trans p1)
        have HO3 := hide hown3
        have HB3 := hide (HBR.out.trans hb3)
        clear hown hown3 hb3 p3
        go_wp2_with fail
        go_roundw
        case rel => exact ⟨j + 1, by omega, by go_num, by rw [HNX.out]; exact HO3.out, HB3.out⟩
        case measure => simp [intOf]; omega
    · obtain rfl : j = M + 2 := by omega
      obtain ⟨A9, cap9, rfl, hr9, _⟩ := OwnS.row HO.out
      have HR9 := hide hr9
      have h18 : (Ev.lk L k false (M + 2)).length ≤ 900 := Nat.le_trans (Ev.lk_len _ _ _ _) (by omega)
      have HMM : Hid (∀ p ∈ Ev.lk L k false (M + 2), p.length ≤ 100000) := hide (fun p hp => HSM.out p (Ev.lk_mem _ _ _ _ p hp))
      replace HBX := hide (andthen HBX.out HBR.out)
      replace HL := hide (HL.out.keep HBR.out)
      replace s0 := cell_keep HBR.out s0
      replace s1 := cell_keep HBR.out s1
      replace s2 := cell_keep HBR.out s2
      replace s3 := cell_keep HBR.out s3
      replace s4 := cell_keep HBR.out s4
      replace s5 := cell_keep HBR.out s5
      replace s6 := cell_keep HBR.out s6
      replace s7 := cell_keep HBR.out s7
      replace s8 := cell_keep HBR.out s8
      replace s9 := cell_keep HBR.out s9
      replace s10 := cell_keep HBR.out s10
      replace s11 := cell_keep HBR.out s11
      replace s12 := cell_keep HBR.out s12
      clear HO HBR hr9
      have hL1 := HLN.out
      rw [hL1] at h18 ⊢
      go_wp2_with fail
      rcases HK.out with hK | ⟨x9, hK, hx9⟩
      · have HK1 := hide hK
        clear hK HK
        refine (read_no A9 _ cap9 _ _ HR9.out hL1.symm (by omega) HMM.out (HE.out.keep HBX.out) _ HK1.out).mono ?_
        rintro _ w6 ⟨rfl, hb6⟩
        unfold noEvent
        replace HBX := hide (more (andthen HBX.out hb6) (.cells #[.string ⟨#[]⟩, .string ⟨#[]⟩, .int .i64 0, .int .i64 0, .slice none 0 0, .int .i64 0, .int .i64 0, .int .i64 0, .int .i64 0, .slice none 0 0, .slice none 0 0, .slice none 0 0, .slice none 0 0] 27))
        clear hb6 HL hL1 s0 s1 s2 s3 s4 s5 s6 s7 s8 s9 s10 s11 s12
        have kk : ((M : Int) == ((M + 1 : Nat) : Int) - 1) = true := by rw [beq_iff_eq]; omega
        go_wp2_with fail
        go_ret
        exact ⟨rfl, HBX.out⟩
      · have HK1 := hide hK
        have HX9 := hide hx9
        clear hK HK hx9
        refine (read_yes A9 _ cap9 _ _ HR9.out hL1.symm (by omega) HMM.out (HE.out.keep HBX.out) x9 _ HK1.out).mono ?_
        rintro _ w6 ⟨m9, rfl, hl9, hb6⟩
        have hk9 := blk_new w6 #[.string (str x9.uid), .string (str x9.text), .int .i64 x9.st, .int .i64 x9.lg, .slice m9.O x9.rooms.length m9.oc, .int .i64 x9.r.fr, .int .i64 x9.r.ev, .int .i64 x9.r.ct, .int .i64 x9.r.un, .slice m9.D x9.r.ds.length m9.dc, .slice m9.M x9.r.ms.length m9.mc, .slice m9.Y x9.r.ys.length m9.yc, .slice m9.X x9.ex.length m9.xc] 27
        have hm9 := more (start w6) (.cells #[.string (str x9.uid), .string (str x9.text), .int .i64 x9.st, .int .i64 x9.lg, .slice m9.O x9.rooms.length m9.oc, .int .i64 x9.r.fr, .int .i64 x9.r.ev, .int .i64 x9.r.ct, .int .i64 x9.r.un, .slice m9.D x9.r.ds.length m9.dc, .slice m9.M x9.r.ms.length m9.mc, .slice m9.Y x9.r.ys.length m9.yc, .slice m9.X x9.ex.length m9.xc] 27)
        replace HBX := hide (andthen (andthen HBX.out hb6) hm9)
        replace HL := hide ((HL.out.keep hb6).keep hm9)
        have HL9 := hide (hl9.keep hm9)
        replace s0 := cell_keep hm9 (cell_keep hb6 s0)
        replace s1 := cell_keep hm9 (cell_keep hb6 s1)
        replace s2 := cell_keep hm9 (cell_keep hb6 s2)
        replace s3 := cell_keep hm9 (cell_keep hb6 s3)
        replace s4 := cell_keep hm9 (cell_keep hb6 s4)
        replace s5 := cell_keep hm9 (cell_keep hb6 s5)
        replace s6 := cell_keep hm9 (cell_keep hb6 s6)
        replace s7 := cell_keep hm9 (cell_keep hb6 s7)
        replace s8 := cell_keep hm9 (cell_keep hb6 s8)
        replace s9 := cell_keep hm9 (cell_keep hb6 s9)
        replace s10 := cell_keep hm9 (cell_keep hb6 s10)
        replace s11 := cell_keep hm9 (cell_keep hb6 s11)
        replace s12 := cell_keep hm9 (cell_keep hb6 s12)
        have q0 := hk9.cell 0 (by simp)
        have q1 := hk9.cell 1 (by simp)
        have q2 := hk9.cell 2 (by simp)
        have q3 := hk9.cell 3 (by simp)
        have q4 := hk9.cell 4 (by simp)
        have q5 := hk9.cell 5 (by simp)
        have q6 := hk9.cell 6 (by simp)
        have q7 := hk9.cell 7 (by simp)
        have q8 := hk9.cell 8 (by simp)
        have q9 := hk9.cell 9 (by simp)
        have q10 := hk9.cell 10 (by simp)
        have q11 := hk9.cell 11 (by simp)
        have q12 := hk9.cell 12 (by simp)
        simp only [List.getElem_cons_zero, List.getElem_cons_succ] at q0 q1 q2 q3 q4 q5 q6 q7 q8 q9 q10 q11 q12
        clear hb6 hk9 hm9 hl9 hL1
        have kk : (((M + 1 : Nat) : Int) == ((M + 1 : Nat) : Int)) = true := beq_self_eq_true _
        go_wp2_with fail
        refine (esame_at x9 ⟨u, t, s, l, o, ⟨fr, ev, ct, un, ds, ms, ys⟩, x⟩ m9 m false _ HL9.out HL.out HX9.out).mono ?_
        rintro _ w7 ⟨rfl, hb7⟩
        replace HBX := hide (andthen HBX.out hb7)
        clear hb7 HL HL9 s0 s1 s2 s3 s4 s5 s6 s7 s8 s9 s10 s11 s12 q0 q1 q2 q3 q4 q5 q6 q7 q8 q9 q10 q11 q12
        go_wp2_with fail
        go_ret
        exact ⟨rfl, HBX.out⟩
set_option maxRecDepth 100000 in
set_option maxHeartbeats 2000000 in
theorem lacks_none (u t : Tx) (s l : Int) (o : List Int) (fr ev ct un : Int) (ds : List Wd) (ms ys x : List Int) (m : Mem) (y : Int) (tw : Bool) (w : World) (h : EvL w ⟨u, t, s, l, o, ⟨fr, ev, ct, un, ds, ms, ys⟩, x⟩ m) (he : EnvE w) (hfew : fewEB ds.length ms.length ys.length (str u).size (str t).size o.length x.length = true) (his : Ev.isE ⟨u, t, s, l, o, ⟨fr, ev, ct, un, ds, ms, ys⟩, x⟩ = false) :
    Calls Tryz.prog 6 #[.agg #[.string (str u), .string (str t), .int .i64 s, .int .i64 l, .slice m.O o.length m.oc, .int .i64 fr, .int .i64 ev, .int .i64 ct, .int .i64 un, .slice m.D ds.length m.dc, .slice m.M ms.length m.mc, .slice m.Y ys.length m.yc, .slice m.X x.length m.xc], .int .u8 y, .bool tw] w (Ans w (.bool true)) := by
  have HE := hide he
  have HFEW := hide hfew
  have HBX := hide (more (start w) (.cells #[.string (str u), .string (str t), .int .i64 s, .int .i64 l, .slice m.O o.length m.oc, .int .i64 fr, .int .i64 ev, .int .i64 ct, .int .i64 un, .slice m.D ds.length m.dc, .slice m.M ms.length m.mc, .slice m.Y ys.length m.yc, .slice m.X x.length m.xc] 27))
  have hk := blk_new w #[.string (str u), .string (str t), .int .i64 s, .int .i64 l, .slice m.O o.length m.oc, .int .i64 fr, .int .i64 ev, .int .i64 ct, .int .i64 un, .slice m.D ds.length m.dc, .slice m.M ms.length m.mc, .slice m.Y ys.length m.yc, .slice m.X x.length m.xc] 27
  have s0 := hk.cell 0 (by simp)
  have s1 := hk.cell 1 (by simp)
  have s2 := hk.cell 2 (by simp)
  have s3 := hk.cell 3 (by simp)
  have s4 := hk.cell 4 (by simp)
  have s5 := hk.cell 5 (by simp)
  have s6 := hk.cell 6 (by simp)
  have s7 := hk.cell 7 (by simp)
  have s8 := hk.cell 8 (by simp)
  have s9 := hk.cell 9 (by simp)
  have s10 := hk.cell 10 (by simp)
  have s11 := hk.cell 11 (by simp)
  have s12 := hk.cell 12 (by simp)
  simp only [List.getElem_cons_zero, List.getElem_cons_succ] at s0 s1 s2 s3 s4 s5 s6 s7 s8 s9 s10 s11 s12
  have HL := hide (h.keep HBX.out)
  have HIS := hide his
  clear h he his hfew hk
  go_enter Tryz.func6, Tryz.ntmps6
  go_wp2_with fail
  refine (known_any _ (HE.out.keep HBX.out)).mono ?_
  rintro e w1 ⟨rfl, hb1⟩
  replace HBX := hide (andthen HBX.out hb1)
  replace HL := hide (HL.out.keep hb1)
  replace s0 := cell_keep hb1 s0
  replace s1 := cell_keep hb1 s1
  replace s2 := cell_keep hb1 s2
  replace s3 := cell_keep hb1 s3
  replace s4 := cell_keep hb1 s4
  replace s5 := cell_keep hb1 s5
  replace s6 := cell_keep hb1 s6
  replace s7 := cell_keep hb1 s7
  replace s8 := cell_keep hb1 s8
  replace s9 := cell_keep hb1 s9
  replace s10 := cell_keep hb1 s10
  replace s11 := cell_keep hb1 s11
  replace s12 := cell_keep hb1 s12
  clear hb1
  go_wp2_with fail
  refine (ans_is (fewE_any (str u) (str t) s l m.O o.length m.oc fr ev ct un m.D m.M m.Y m.X ds.length m.dc ms.length m.mc ys.length m.yc x.length m.xc _) HFEW.out).mono ?_
  rintro e w2 ⟨rfl, hb1⟩
  replace HBX := hide (andthen HBX.out hb1)
  replace HL := hide (HL.out.keep hb1)
  replace s0 := cell_keep hb1 s0
  replace s1 := cell_keep hb1 s1
  replace s2 := cell_keep hb1 s2
  replace s3 := cell_keep hb1 s3
  replace s4 := cell_keep hb1 s4
  replace s5 := cell_keep hb1 s5
  replace s6 := cell_keep hb1 s6
  replace s7 := cell_keep hb1 s7
  replace s8 := cell_keep hb1 s8
  replace s9 := cell_keep hb1 s9
  replace s10 := cell_keep hb1 s10
  replace s11 := cell_keep hb1 s11
  replace s12 := cell_keep hb1 s12
  clear hb1
  go_wp2_with fail
  refine (eis_at ⟨u, t, s, l, o, ⟨fr, ev, ct, un, ds, ms, ys⟩, x⟩ m false _ HL.out HIS.out).mono ?_
  rintro e w3 ⟨rfl, hb1⟩
  replace HBX := hide (andthen HBX.out hb1)
  clear hb1 HL s0 s1 s2 s3 s4 s5 s6 s7 s8 s9 s10 s11 s12
  go_wp2_with fail
  go_ret
  exact ⟨rfl, HBX.out⟩
set_option maxRecDepth 100000 in
set_option maxHeartbeats 2000000 in
theorem lacks_few (U T : ByteArray) (s l : Int) (O : Option Addr) (on oc : Nat) (fr ev ct un : Int) (D M Y X : Option Addr) (dn dc mn mc yn yc xn xc : Nat) (y : Int) (tw : Bool) (w : World) (he : EnvE w) (hfew : fewEB dn mn yn U.size T.size on xn = false) :
    Calls Tryz.prog 6 #[.agg #[.string U, .string T, .int .i64 s, .int .i64 l, .slice O on oc, .int .i64 fr, .int .i64 ev, .int .i64 ct, .int .i64 un, .slice D dn dc, .slice M mn mc, .slice Y yn yc, .slice X xn xc], .int .u8 y, .bool tw] w (Ans w (.bool true)) := by
  have HE := hide he
  have HFEW := hide hfew
  have HBX := hide (more (start w) (.cells #[.string U, .string T, .int .i64 s, .int .i64 l, .slice O on oc, .int .i64 fr, .int .i64 ev, .int .i64 ct, .int .i64 un, .slice D dn dc, .slice M mn mc, .slice Y yn yc, .slice X xn xc] 27))
  have hk := blk_new w #[.string U, .string T, .int .i64 s, .int .i64 l, .slice O on oc, .int .i64 fr, .int .i64 ev, .int .i64 ct, .int .i64 un, .slice D dn dc, .slice M mn mc, .slice Y yn yc, .slice X xn xc] 27
  have s0 := hk.cell 0 (by simp)
  have s1 := hk.cell 1 (by simp)
  have s2 := hk.cell 2 (by simp)
  have s3 := hk.cell 3 (by simp)
  have s4 := hk.cell 4 (by simp)
  have s5 := hk.cell 5 (by simp)
  have s6 := hk.cell 6 (by simp)
  have s7 := hk.cell 7 (by simp)
  have s8 := hk.cell 8 (by simp)
  have s9 := hk.cell 9 (by simp)
  have s10 := hk.cell 10 (by simp)
  have s11 := hk.cell 11 (by simp)
  have s12 := hk.cell 12 (by simp)
  simp only [List.getElem_cons_zero, List.getElem_cons_succ] at s0 s1 s2 s3 s4 s5 s6 s7 s8 s9 s10 s11 s12
  clear he hfew hk
  go_enter Tryz.func6, Tryz.ntmps6
  go_wp2_with fail
  refine (known_any _ (HE.out.keep HBX.out)).mono ?_
  rintro e w1 ⟨rfl, hb1⟩
  replace HBX := hide (andthen HBX.out hb1)
  replace s0 := cell_keep hb1 s0
  replace s1 := cell_keep hb1 s1
  replace s2 := cell_keep hb1 s2
  replace s3 := cell_keep hb1 s3
  replace s4 := cell_keep hb1 s4
  replace s5 := cell_keep hb1 s5
  replace s6 := cell_keep hb1 s6
  replace s7 := cell_keep hb1 s7
  replace s8 := cell_keep hb1 s8
  replace s9 := cell_keep hb1 s9
  replace s10 := cell_keep hb1 s10
  replace s11 := cell_keep hb1 s11
  replace s12 := cell_keep hb1 s12
  clear hb1
  go_wp2_with fail
  refine (ans_is (fewE_any U T s l O on oc fr ev ct un D M Y X dn dc mn mc yn yc xn xc _) HFEW.out).mono ?_
  rintro e w2 ⟨rfl, hb1⟩
  replace HBX := hide (andthen HBX.out hb1)
  clear hb1 s0 s1 s2 s3 s4 s5 s6 s7 s8 s9 s10 s11 s12
  go_wp2_with fail
  go_ret
  exact ⟨rfl, HBX.out⟩
theorem lacks_any (U T : ByteArray) (s l : Int) (O : Option Addr) (on oc : Nat) (fr ev ct un : Int) (D M Y X : Option Addr) (dn dc mn mc yn yc xn xc : Nat) (o : List Int) (ds : List Wd) (ms ys x : List Int) (y : Int) (tw : Bool) (w : World) (he : EnvE w)
    (h : (on = o.length ∧ o.length ≤ maxLen ∧ RowI w O o) ∧ ((dn = ds.length ∧ ds.length ≤ maxLen ∧ RowD w D ds) ∧ (mn = ms.length ∧ ms.length ≤ maxLen ∧ RowI w M ms) ∧ (yn = ys.length ∧ ys.length ≤ maxLen ∧ RowI w Y ys)) ∧ (xn = x.length ∧ x.length ≤ maxLen ∧ RowI w X x) ∧ U.size ≤ maxLen ∧ T.size ≤ maxLen ∧ (X = none → xc = 0)) (y1 : 0 ≤ y) (y2 : y ≤ 255) :
    Calls Tryz.prog 6 #[.agg #[.string U, .string T, .int .i64 s, .int .i64 l, .slice O on oc, .int .i64 fr, .int .i64 ev, .int .i64 ct, .int .i64 un, .slice D dn dc, .slice M mn mc, .slice Y yn yc, .slice X xn xc], .int .u8 y, .bool tw] w (Ans w (.bool true)) := by
  obtain ⟨⟨rfl, _, ho⟩, ⟨⟨rfl, _, hd⟩, ⟨rfl, _, hm⟩, ⟨rfl, _, hy⟩⟩, ⟨rfl, _, hx⟩, _, _, _⟩ := h
  cases hf : fewEB ds.length ms.length ys.length U.size T.size o.length x.length with
  | false => exact lacks_few U T s l O o.length oc fr ev ct un D M Y X ds.length dc ms.length mc ys.length yc x.length xc y tw w he hf
  | true =>
    have hb := (fewEB_iff _ _ _ _ _ _ _).1 hf
    have hU : str U.data.toList = U := data_str U
    have hT : str T.data.toList = T := data_str T
    have hul : U.data.toList.length ≤ 40000 := by rw [len_of]; omega
    have htl : T.data.toList.length ≤ 40000 := by rw [len_of]; omega
    generalize U.data.toList = u at *
    generalize T.data.toList = t at *
    subst hU hT
    have hl : EvL w ⟨u, t, s, l, o, ⟨fr, ev, ct, un, ds, ms, ys⟩, x⟩ ⟨O, oc, D, dc, M, mc, Y, yc, X, xc⟩ := ⟨ho, by show o.length ≤ 1000; omega, ⟨hd, rfl, by show ds.length ≤ 1000; omega, hm, rfl, by show ms.length ≤ 1000; omega, hy, rfl, by show ys.length ≤ 1000; omega⟩, hx, by show x.length ≤ 1000; omega, hul, htl⟩
    cases hi : Ev.isE ⟨u, t, s, l, o, ⟨fr, ev, ct, un, ds, ms, ys⟩, x⟩ with
    | false => exact lacks_none u t s l o fr ev ct un ds ms ys x ⟨O, oc, D, dc, M, mc, Y, yc, X, xc⟩ y tw w hl he hf hi
    | true =>
      cases tw
      · exact lacks_false u t s l o fr ev ct un ds ms ys x ⟨O, oc, D, dc, M, mc, Y, yc, X, xc⟩ y w y1 y2 hl he hf hi
      · exact lacks_true u t s l o fr ev ct un ds ms ys x ⟨O, oc, D, dc, M, mc, Y, yc, X, xc⟩ y w y1 y2 hl he hf hi

end Go.Proofs.YtgdjeddelcfgeaaGreatDoor

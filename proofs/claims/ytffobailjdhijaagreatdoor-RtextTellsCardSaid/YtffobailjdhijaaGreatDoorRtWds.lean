/- Walks of the document's texts: weekdays. -/
import Derived.Test.YtffobailjdhijaaGreatDoorRtWd
import Derived.Test.YtffobailjdhijaaGreatDoorRuS
namespace Go.Proofs.YtffobailjdhijaaGreatDoor
open Go.RowKit Rul Rt Go.Sort

/-- a row of weekdays read, or none. -/
def DaysA (w : World) (o : Option (List Wd)) (e : Ending) (w' : World) : Prop := Below w.heap.size w w' ∧
  ((o = none ∧ e = .returned (.tuple #[.slice none 0 0, .bool false])) ∨ ∃ l v, o = some l ∧ e = .returned (.tuple #[v, .bool true]) ∧ OwnD w' w.heap.size v l)
theorem OwnD.low2 {w : World} {B B2 : Nat} {v : Value} {l : List Wd} (h : OwnD w B v l) (hb : B2 ≤ B) : OwnD w B2 v l := by
  refine ⟨h.1, ?_⟩
  rcases h.2 with g | ⟨g, cap, cur, e, hg, r⟩
  · exact Or.inl g
  · exact Or.inr ⟨g, cap, cur, e, Nat.le_trans hb hg, r⟩
theorem wd_ne {a b : Wd} (h : ¬ (a.1 = b.1 ∧ a.2 = b.2)) : a ≠ b := fun e => h (by rw [e]; exact ⟨rfl, rfl⟩)

set_option maxRecDepth 100000 in
set_option maxHeartbeats 8000000 in
theorem rwdays_any (s : ByteArray) (w : World) (hs : s.size ≤ 900) :
    Calls Tryz.prog 51 #[.string s] w (DaysA w (listR wdLt (wdWith (decR · true)) s.data.toList)) := by
  have hcl := cutAt_len 44 s.data.toList
  have hcs := cutAt_sub 44 s.data.toList
  rw [len_of] at hcl hcs
  have HC := hide (fun w => rCut_any s 44 44 w rfl (by omega))
  have HF : Hid (listR wdLt (wdWith (decR · true)) s.data.toList = insAll wdLt (wdWith (decR · true)) (cutAt 44 s.data.toList) []) := hide rfl
  rw [HF.out]
  generalize cutAt 44 s.data.toList = ps at *
  clear HF
  go_enter Tryz.func51, Tryz.ntmps51
  go_wp2_with fail
  refine (HC.out _).mono ?_
  rintro e w1 ⟨v, rfl, hown, hb1⟩
  obtain ⟨A, cap, rfl, hrow, hcap⟩ := OwnS.row hown
  have HR := hide hrow
  have HB1 := hide hb1
  clear hown hrow hb1
  go_wp2_with fail
  go_loopw [5, 6, 7, 8, 9, 10, 11] (fun v i _ _ _ _ _ wr => ∃ (j : Nat) (k : List Wd), j ≤ ps.length ∧ i = .int .i64 j ∧ OwnD wr w.heap.size v k ∧ Hid (insAll wdLt (wdWith (decR · true)) (ps.take j) [] = some k) ∧ Below w1.heap.size w1 wr) (fun _ i _ _ _ _ _ _ => ps.length - (intOf i).toNat)
  case atStart => exact ⟨0, [], Nat.zero_le _, rfl, ownD_nil _ _, hide rfl, start _⟩
  case round =>
    obtain ⟨j, k, hj, rfl, hown, HK, hbw⟩ := hrel
    have HO := hide hown
    have HBR := hide hbw
    have HBW := hide (andthen HB1.out hbw)
    clear hown hbw
    by_cases hlt : j < ps.length
    · obtain ⟨b1, o1, rfl, hb1, hc1⟩ := HR.out (by intro h0; rw [h0] at hlt; exact absurd hlt (Nat.not_lt_zero _))
      obtain ⟨T, hm⟩ : ∃ T, ps[j] = T := ⟨_, rfl⟩
      have p1 : wr.cell? ⟨b1, o1 + j, none⟩ = some (.string (str T)) := by rw [← hm]; exact (HBR.out.cell (p := ⟨b1, _, none⟩) hb1).trans (hc1 j hlt)
      have hi0 : (0 : Int) ≤ (j : Int) := by omega
      have hi1 : (j : Int) < (ps.length : Int) := by omega
      have hT : (str T).size ≤ 900 := by rw [str_size, ← hm]; exact Nat.le_trans (hcs _ (List.getElem_mem hlt)) (by omega)
      have HD := hide (fun w => rwday_any (str T) w hT)
      have hkl : k.length ≤ 1000 := by have := insAll_len _ _ _ HK.out; rw [List.length_take, List.length_nil] at this; omega
      rw [str_list] at HD
      clear hc1
      go_wp2_with fail
      refine (HD.out _).mono ?_
      rintro e w2 ⟨hb2, n, d, hnd, rfl⟩
      replace HBR := hide (andthen HBR.out hb2)
      replace HBW := hide (andthen HBW.out hb2)
      replace HO := hide (HO.out.keep hb2)
      clear hb2 p1
      cases hd : wdWith (decR · true) T with
      | none =>
        rw [hd] at hnd
        have HN : Hid (insAll wdLt (wdWith (decR · true)) ps [] = none) := hide (insAll_at_none hlt HK.out (by rw [hm]; simp only [hd]))
        simp only [Option.isSome_none]
        replace HBW := hide (more HBW.out (.cells #[.int .i64 n, .int .i64 d] 27))
        clear hm hd hnd
        go_wp2_with fail
        go_ret2
        exact ⟨HBW.out, Or.inl ⟨HN.out, rfl⟩⟩
      | some x =>
        rw [hd] at hnd
        have hx := hnd x rfl
        subst hx
        simp only [Option.isSome_some]
        have HNX : Hid (∀ k2, putO wdLt (n, d) k = k2 → (k2 = none → insAll wdLt (wdWith (decR · true)) ps [] = none) ∧ (∀ k3, k2 = some k3 → insAll wdLt (wdWith (decR · true)) (ps.take (j + 1)) [] = some k3)) := hide (fun k2 h => by
          subst h
          refine ⟨fun hn => insAll_at_none hlt HK.out (by rw [hm]; simp only [hd]; exact hn), fun k3 h3 => ?_⟩
          rw [List.take_succ_eq_append_getElem hlt, insAll_snoc _ _ _ HK.out, hm]; simp only [hd]; exact h3)
        obtain ⟨X, hX⟩ : ∃ X, w2.heap.size = X := ⟨_, rfl⟩
        have hz2 : w.heap.size ≤ X := by rw [← hX]; exact HBW.out.size
        have x0 : (w2.alloc (.cells #[.int .i64 n, .int .i64 d] 27)).cell? ⟨X, 0, none⟩ = some (.int .i64 n) := by subst hX; rw [World.cell?_alloc_at _ _ _ _ rfl]; rfl
        have x1 : (w2.alloc (.cells #[.int .i64 n, .int .i64 d] 27)).cell? ⟨X, 1, none⟩ = some (.int .i64 d) := by subst hX; rw [World.cell?_alloc_at _ _ _ _ rfl]; rfl
        have hbx := more (start w2) (.cells #[.int .i64 n, .int .i64 d] 27)
        replace HBR := hide (andthen HBR.out hbx)
        replace HBW := hide (andthen HBW.out hbx)
        replace HO := hide (HO.out.keep hbx)
        have HX := hide (And.intro x0 x1)
        obtain ⟨A2, cap2, rfl, hrow2⟩ := OwnD.row HO.out
        have HRW := hide hrow2
        clear hm hd hnd hbx hrow2 x0 x1 HD
        go_wp2_with fail
        generalize w2.alloc (.cells #[.int .i64 n, .int .i64 d] 27) = W5 at *
        have hXlt : X < W5.heap.size := block_lt_of_cell HX.out.1
        go_loopw [9, 10, 11] (fun v b i wr => ∃ (q : Nat) (out : List Wd) (f : Bool), q ≤ k.length ∧ i = .int .i64 q ∧ b = .bool f ∧ OwnD wr W5.heap.size v out ∧ Hid (PutAt wdLt (n, d) k q out f) ∧ Hid (out.length ≤ q + 1) ∧ Below W5.heap.size W5 wr) (fun _ _ i _ => k.length - (intOf i).toNat)
        case atStart => exact ⟨0, [], false, Nat.zero_le _, rfl, rfl, ownD_nil _ _, hide (PutAt.zero wdLt (n, d) k), hide (Nat.zero_le _), start _⟩
        case round =>
          obtain ⟨q, out, f, hq, rfl, rfl, hown, HP, HL, hbq⟩ := hrel
          have HOQ := hide hown
          have HBQ := hide hbq
          clear hown hbq
          by_cases hqt : q < k.length
          · obtain ⟨b2, o2, rfl, hb2, hc2⟩ := HRW.out (by intro h0; rw [h0] at hqt; exact absurd hqt (Nat.not_lt_zero _))
            obtain ⟨m, hm⟩ : ∃ m, k[q] = m := ⟨_, rfl⟩
            obtain ⟨y1, y2⟩ := m
            have hc := hc2 q hqt
            rw [hm] at hc
            simp only at hc
            have HPC := hide hc
            have hi2 : (0 : Int) ≤ (q : Int) := by omega
            have hi3 : (q : Int) < (k.length : Int) := by omega
            clear hc hc2
            have p0 : wr.cell? ⟨b2, o2 + q * 2, none⟩ = some (.int .i64 y1) := ((HBQ.out).cell (p := ⟨b2, o2 + q * 2, none⟩) hb2).trans HPC.out.1
            have p1 : wr.cell? ⟨b2, o2 + q * 2 + 1, none⟩ = some (.int .i64 y2) := ((HBQ.out).cell (p := ⟨b2, o2 + q * 2 + 1, none⟩) hb2).trans HPC.out.2
            have x0 : wr.cell? ⟨X, 0, none⟩ = some (.int .i64 n) := ((HBQ.out).cell (p := ⟨X, 0, none⟩) hXlt).trans HX.out.1
            have x1 : wr.cell? ⟨X, 1, none⟩ = some (.int .i64 d) := ((HBQ.out).cell (p := ⟨X, 1, none⟩) hXlt).trans HX.out.2
            by_cases he1 : y1 = n
            · by_cases he2 : y2 = d
              · have e1 : (y1 == n) = true := beq_iff_eq.2 he1
                have e2 : (y2 == d) = true := beq_iff_eq.2 he2
                have HN : Hid (putO wdLt (n, d) k = none) := hide (putO_no (by have h := List.getElem_mem hqt; rw [hm, he1, he2] at h; exact h))
                have HNN := hide ((HNX.out _ rfl).1 HN.out)
                clear hm he1 he2
                go_wp2_with fail
                go_quiet (fail)
                go_wp2_with fail
                go_ret2
                exact ⟨below_drawn (andthen HBW.out HBQ.out) _, Or.inl ⟨HNN.out, rfl⟩⟩
              · have e1 : (y1 == n) = true := beq_iff_eq.2 he1
                have e2 : (y2 == d) = false := beq_eq_false_iff_ne.2 he2
                have hne : k[q] ≠ (n, d) := by rw [hm]; exact wd_ne (fun h => he2 h.2)
                clear he1 he2
                go_wp2_with fail
                go_quiet (fail)
                have HB2 := hide (below_drawn HBQ.out nq)
                have HO2 := hide (HOQ.out.keep (below_drawn (start wr) nq))
                generalize wr.drewN nq = wq2 at *
                clear p0 p1 x0 x1
                have p0 : wq2.cell? ⟨b2, o2 + q * 2, none⟩ = some (.int .i64 y1) := ((HB2.out).cell (p := ⟨b2, o2 + q * 2, none⟩) hb2).trans HPC.out.1
                have p1 : wq2.cell? ⟨b2, o2 + q * 2 + 1, none⟩ = some (.int .i64 y2) := ((HB2.out).cell (p := ⟨b2, o2 + q * 2 + 1, none⟩) hb2).trans HPC.out.2
                have x0 : wq2.cell? ⟨X, 0, none⟩ = some (.int .i64 n) := ((HB2.out).cell (p := ⟨X, 0, none⟩) hXlt).trans HX.out.1
                have x1 : wq2.cell? ⟨X, 1, none⟩ = some (.int .i64 d) := ((HB2.out).cell (p := ⟨X, 1, none⟩) hXlt).trans HX.out.2
                go_wp2_with fail
                have f0 := fun d os => cell_regrown p0 d os
                have f1 := fun d os => cell_regrown p1 d os
                have f2 := fun d os => cell_regrown x0 d os
                have f3 := fun d os => cell_regrown x1 d os
                clear p0 p1 x0 x1
                cases f with
                | true =>
                  have HN : Hid (PutAt wdLt (n, d) k (q + 1) (out ++ [(y1, y2)]) true) := hide (by have := HP.out.past hqt hne; rwa [hm] at this)
                  refine wp_region_quiet_below (by kernel_rfl) (by kernel_rfl) ?_
                  repeat (first | go_big_quiet_step ((first | fail)) | quiet_step ((first | fail)))
                  refine wpQuiet_nil ?_
                  intro _ hw'
                  obtain ⟨⟨nq, osq⟩, hw''⟩ := hw'
                  subst hw''
                  have hq2 := below_regrown wq2 nq osq
                  generalize grow (redrawn wq2 nq) osq = wq3 at *
                  replace HB2 := hide (andthen HB2.out hq2)
                  replace HO2 := hide (HO2.out.keep hq2)
                  clear hq2 f0 f1 f2 f3
                  have p0 : wq3.cell? ⟨b2, o2 + q * 2, none⟩ = some (.int .i64 y1) := ((HB2.out).cell (p := ⟨b2, o2 + q * 2, none⟩) hb2).trans HPC.out.1
                  have p1 : wq3.cell? ⟨b2, o2 + q * 2 + 1, none⟩ = some (.int .i64 y2) := ((HB2.out).cell (p := ⟨b2, o2 + q * 2 + 1, none⟩) hb2).trans HPC.out.2
                  have x0 : wq3.cell? ⟨X, 0, none⟩ = some (.int .i64 n) := ((HB2.out).cell (p := ⟨X, 0, none⟩) hXlt).trans HX.out.1
                  have x1 : wq3.cell? ⟨X, 1, none⟩ = some (.int .i64 d) := ((HB2.out).cell (p := ⟨X, 1, none⟩) hXlt).trans HX.out.2
                  have hz := HB2.out.size
                  have hown := HO2.out
                  have hln : out.length ≤ 1000000 := by have := HL.out; omega
                  clear hm hne
                  go_wp2_with (at_builtin; refine wp_oneD (l := out) (p := (y1, y2)) rfl _ _ rfl rfl rfl rfl hown hz hln ?_; intro v3 w3 hown3 hb3)
                  have HO3 := hide hown3
                  have HB3 := hide (HB2.out.trans hb3)
                  clear hown hown3 hb3 hz hln
                  go_wp2_with fail
                  go_roundw
                  case rel => exact ⟨q + 1, _, true, by omega, by go_num, rfl, HO3.out, HN, hide (by have := HL.out; rw [List.length_append]; simp; omega), HB3.out⟩
                  case measure => simp [intOf]; omega
                | false =>
                  have HLS := hide (fun w => R.less_any n d y1 y2 w)
                  cases hL : wdLt (n, d) (y1, y2) with
                  | true =>
                    have HN : Hid (PutAt wdLt (n, d) k (q + 1) ((out ++ [(n, d)]) ++ [(y1, y2)]) true) := hide (by have := HP.out.ahead hqt hne (by rw [hm]; exact hL); rwa [hm] at this)
                    have HLO : Hid (out.length ≤ q) := hide (by
                      rcases HP.out.rest with ⟨_, e, _⟩ | ⟨e, _⟩
                      · rw [e, List.length_take]; omega
                      · cases e)
                    rw [hL] at HLS
                    clear hL
                    refine wp_region_quiet_below (by kernel_rfl) (by kernel_rfl) ?_
                    repeat (first | go_big_quiet_step ((first | (go_at_call 60; exact Calls.regrown_of (HLS.out _)))) | quiet_step ((first | (go_at_call 60; exact Calls.regrown_of (HLS.out _)))))
                    refine wpQuiet_nil ?_
                    intro _ hw'
                    obtain ⟨⟨nq, osq⟩, hw''⟩ := hw'
                    subst hw''
                    have hq2 := below_regrown wq2 nq osq
                    generalize grow (redrawn wq2 nq) osq = wq3 at *
                    replace HB2 := hide (andthen HB2.out hq2)
                    replace HO2 := hide (HO2.out.keep hq2)
                    clear hq2 f0 f1 f2 f3
                    have p0 : wq3.cell? ⟨b2, o2 + q * 2, none⟩ = some (.int .i64 y1) := ((HB2.out).cell (p := ⟨b2, o2 + q * 2, none⟩) hb2).trans HPC.out.1
                    have p1 : wq3.cell? ⟨b2, o2 + q * 2 + 1, none⟩ = some (.int .i64 y2) := ((HB2.out).cell (p := ⟨b2, o2 + q * 2 + 1, none⟩) hb2).trans HPC.out.2
                    have x0 : wq3.cell? ⟨X, 0, none⟩ = some (.int .i64 n) := ((HB2.out).cell (p := ⟨X, 0, none⟩) hXlt).trans HX.out.1
                    have x1 : wq3.cell? ⟨X, 1, none⟩ = some (.int .i64 d) := ((HB2.out).cell (p := ⟨X, 1, none⟩) hXlt).trans HX.out.2
                    have hz := HB2.out.size
                    have hown := HO2.out
                    have hln : out.length ≤ 1000000 := by have := HL.out; omega
                    clear hm hne
                    go_upto_region 19 with (at_builtin; refine wp_oneD (l := out) (p := (n, d)) rfl _ _ rfl rfl rfl rfl hown hz hln ?_; intro v2 w2 hown2 hb2')
                    replace HB2 := hide (HB2.out.trans hb2')
                    replace HO2 := hide hown2
                    clear hown hown2 hb2' hz hln p0 p1 x0 x1
                    have p0 : w2.cell? ⟨b2, o2 + q * 2, none⟩ = some (.int .i64 y1) := ((HB2.out).cell (p := ⟨b2, o2 + q * 2, none⟩) hb2).trans HPC.out.1
                    have p1 : w2.cell? ⟨b2, o2 + q * 2 + 1, none⟩ = some (.int .i64 y2) := ((HB2.out).cell (p := ⟨b2, o2 + q * 2 + 1, none⟩) hb2).trans HPC.out.2
                    have x0 : w2.cell? ⟨X, 0, none⟩ = some (.int .i64 n) := ((HB2.out).cell (p := ⟨X, 0, none⟩) hXlt).trans HX.out.1
                    have x1 : w2.cell? ⟨X, 1, none⟩ = some (.int .i64 d) := ((HB2.out).cell (p := ⟨X, 1, none⟩) hXlt).trans HX.out.2
                    have hz := HB2.out.size
                    have hown := HO2.out
                    have hln : (out ++ [(n, d)]).length ≤ 1000000 := by have := HLO.out; rw [List.length_append]; simp; omega
                    go_wp2_with (at_builtin; refine wp_oneD (l := out ++ [(n, d)]) (p := (y1, y2)) rfl _ _ rfl rfl rfl rfl hown hz hln ?_; intro v3 w3 hown3 hb3)
                    have HO3 := hide hown3
                    have HB3 := hide (HB2.out.trans hb3)
                    clear hown hown3 hb3 hz hln
                    go_wp2_with fail
                    go_roundw
                    case rel => exact ⟨q + 1, _, true, by omega, by go_num, rfl, HO3.out, HN, hide (by have := HLO.out; rw [List.length_append, List.length_append]; simp; omega), HB3.out⟩
                    case measure => simp [intOf]; omega
                  | false =>
                    have HN : Hid (PutAt wdLt (n, d) k (q + 1) (out ++ [(y1, y2)]) false) := hide (by have := HP.out.skip hqt hne (by rw [hm]; exact hL); rwa [hm] at this)
                    rw [hL] at HLS
                    clear hL
                    refine wp_region_quiet_below (by kernel_rfl) (by kernel_rfl) ?_
                    repeat (first | go_big_quiet_step ((first | (go_at_call 60; exact Calls.regrown_of (HLS.out _)))) | quiet_step ((first | (go_at_call 60; exact Calls.regrown_of (HLS.out _)))))
                    refine wpQuiet_nil ?_
                    intro _ hw'
                    obtain ⟨⟨nq, osq⟩, hw''⟩ := hw'
                    subst hw''
                    have hq2 := below_regrown wq2 nq osq
                    generalize grow (redrawn wq2 nq) osq = wq3 at *
                    replace HB2 := hide (andthen HB2.out hq2)
                    replace HO2 := hide (HO2.out.keep hq2)
                    clear hq2 f0 f1 f2 f3
                    have p0 : wq3.cell? ⟨b2, o2 + q * 2, none⟩ = some (.int .i64 y1) := ((HB2.out).cell (p := ⟨b2, o2 + q * 2, none⟩) hb2).trans HPC.out.1
                    have p1 : wq3.cell? ⟨b2, o2 + q * 2 + 1, none⟩ = some (.int .i64 y2) := ((HB2.out).cell (p := ⟨b2, o2 + q * 2 + 1, none⟩) hb2).trans HPC.out.2
                    have x0 : wq3.cell? ⟨X, 0, none⟩ = some (.int .i64 n) := ((HB2.out).cell (p := ⟨X, 0, none⟩) hXlt).trans HX.out.1
                    have x1 : wq3.cell? ⟨X, 1, none⟩ = some (.int .i64 d) := ((HB2.out).cell (p := ⟨X, 1, none⟩) hXlt).trans HX.out.2
                    have hz := HB2.out.size
                    have hown := HO2.out
                    have hln : out.length ≤ 1000000 := by have := HL.out; omega
                    clear hm hne
                    go_wp2_with (at_builtin; refine wp_oneD (l := out) (p := (y1, y2)) rfl _ _ rfl rfl rfl rfl hown hz hln ?_; intro v3 w3 hown3 hb3)
                    have HO3 := hide hown3
                    have HB3 := hide (HB2.out.trans hb3)
                    clear hown hown3 hb3 hz hln
                    go_wp2_with fail
                    go_roundw
                    case rel => exact ⟨q + 1, _, false, by omega, by go_num, rfl, HO3.out, HN, hide (by have := HL.out; rw [List.length_append]; simp; omega), HB3.out⟩
                    case measure => simp [intOf]; omega
            · have e1 : (y1 == n) = false := beq_eq_false_iff_ne.2 he1
              have hne : k[q] ≠ (n, d) := by rw [hm]; exact wd_ne (fun h => he1 h.1)
              clear he1
              go_wp2_with fail
              go_quiet (fail)
              have HB2 := hide (below_drawn HBQ.out nq)
              have HO2 := hide (HOQ.out.keep (below_drawn (start wr) nq))
              generalize wr.drewN nq = wq2 at *
              clear p0 p1 x0 x1
              have p0 : wq2.cell? ⟨b2, o2 + q * 2, none⟩ = some (.int .i64 y1) := ((HB2.out).cell (p := ⟨b2, o2 + q * 2, none⟩) hb2).trans HPC.out.1
              have p1 : wq2.cell? ⟨b2, o2 + q * 2 + 1, none⟩ = some (.int .i64 y2) := ((HB2.out).cell (p := ⟨b2, o2 + q * 2 + 1, none⟩) hb2).trans HPC.out.2
              have x0 : wq2.cell? ⟨X, 0, none⟩ = some (.int .i64 n) := ((HB2.out).cell (p := ⟨X, 0, none⟩) hXlt).trans HX.out.1
              have x1 : wq2.cell? ⟨X, 1, none⟩ = some (.int .i64 d) := ((HB2.out).cell (p := ⟨X, 1, none⟩) hXlt).trans HX.out.2
              go_wp2_with fail
              have f0 := fun d os => cell_regrown p0 d os
              have f1 := fun d os => cell_regrown p1 d os
              have f2 := fun d os => cell_regrown x0 d os
              have f3 := fun d os => cell_regrown x1 d os
              clear p0 p1 x0 x1
              cases f with
              | true =>
                have HN : Hid (PutAt wdLt (n, d) k (q + 1) (out ++ [(y1, y2)]) true) := hide (by have := HP.out.past hqt hne; rwa [hm] at this)
                refine wp_region_quiet_below (by kernel_rfl) (by kernel_rfl) ?_
                repeat (first | go_big_quiet_step ((first | fail)) | quiet_step ((first | fail)))
                refine wpQuiet_nil ?_
                intro _ hw'
                obtain ⟨⟨nq, osq⟩, hw''⟩ := hw'
                subst hw''
                have hq2 := below_regrown wq2 nq osq
                generalize grow (redrawn wq2 nq) osq = wq3 at *
                replace HB2 := hide (andthen HB2.out hq2)
                replace HO2 := hide (HO2.out.keep hq2)
                clear hq2 f0 f1 f2 f3
                have p0 : wq3.cell? ⟨b2, o2 + q * 2, none⟩ = some (.int .i64 y1) := ((HB2.out).cell (p := ⟨b2, o2 + q * 2, none⟩) hb2).trans HPC.out.1
                have p1 : wq3.cell? ⟨b2, o2 + q * 2 + 1, none⟩ = some (.int .i64 y2) := ((HB2.out).cell (p := ⟨b2, o2 + q * 2 + 1, none⟩) hb2).trans HPC.out.2
                have x0 : wq3.cell? ⟨X, 0, none⟩ = some (.int .i64 n) := ((HB2.out).cell (p := ⟨X, 0, none⟩) hXlt).trans HX.out.1
                have x1 : wq3.cell? ⟨X, 1, none⟩ = some (.int .i64 d) := ((HB2.out).cell (p := ⟨X, 1, none⟩) hXlt).trans HX.out.2
                have hz := HB2.out.size
                have hown := HO2.out
                have hln : out.length ≤ 1000000 := by have := HL.out; omega
                clear hm hne
                go_wp2_with (at_builtin; refine wp_oneD (l := out) (p := (y1, y2)) rfl _ _ rfl rfl rfl rfl hown hz hln ?_; intro v3 w3 hown3 hb3)
                have HO3 := hide hown3
                have HB3 := hide (HB2.out.trans hb3)
                clear hown hown3 hb3 hz hln
                go_wp2_with fail
                go_roundw
                case rel => exact ⟨q + 1, _, true, by omega, by go_num, rfl, HO3.out, HN, hide (by have := HL.out; rw [List.length_append]; simp; omega), HB3.out⟩
                case measure => simp [intOf]; omega
              | false =>
                have HLS := hide (fun w => R.less_any n d y1 y2 w)
                cases hL : wdLt (n, d) (y1, y2) with
                | true =>
                  have HN : Hid (PutAt wdLt (n, d) k (q + 1) ((out ++ [(n, d)]) ++ [(y1, y2)]) true) := hide (by have := HP.out.ahead hqt hne (by rw [hm]; exact hL); rwa [hm] at this)
                  have HLO : Hid (out.length ≤ q) := hide (by
                    rcases HP.out.rest with ⟨_, e, _⟩ | ⟨e, _⟩
                    · rw [e, List.length_take]; omega
                    · cases e)
                  rw [hL] at HLS
                  clear hL
                  refine wp_region_quiet_below (by kernel_rfl) (by kernel_rfl) ?_
                  repeat (first | go_big_quiet_step ((first | (go_at_call 60; exact Calls.regrown_of (HLS.out _)))) | quiet_step ((first | (go_at_call 60; exact Calls.regrown_of (HLS.out _)))))
                  refine wpQuiet_nil ?_
                  intro _ hw'
                  obtain ⟨⟨nq, osq⟩, hw''⟩ := hw'
                  subst hw''
                  have hq2 := below_regrown wq2 nq osq
                  generalize grow (redrawn wq2 nq) osq = wq3 at *
                  replace HB2 := hide (andthen HB2.out hq2)
                  replace HO2 := hide (HO2.out.keep hq2)
                  clear hq2 f0 f1 f2 f3
                  have p0 : wq3.cell? ⟨b2, o2 + q * 2, none⟩ = some (.int .i64 y1) := ((HB2.out).cell (p := ⟨b2, o2 + q * 2, none⟩) hb2).trans HPC.out.1
                  have p1 : wq3.cell? ⟨b2, o2 + q * 2 + 1, none⟩ = some (.int .i64 y2) := ((HB2.out).cell (p := ⟨b2, o2 + q * 2 + 1, none⟩) hb2).trans HPC.out.2
                  have x0 : wq3.cell? ⟨X, 0, none⟩ = some (.int .i64 n) := ((HB2.out).cell (p := ⟨X, 0, none⟩) hXlt).trans HX.out.1
                  have x1 : wq3.cell? ⟨X, 1, none⟩ = some (.int .i64 d) := ((HB2.out).cell (p := ⟨X, 1, none⟩) hXlt).trans HX.out.2
                  have hz := HB2.out.size
                  have hown := HO2.out
                  have hln : out.length ≤ 1000000 := by have := HL.out; omega
                  clear hm hne
                  go_upto_region 19 with (at_builtin; refine wp_oneD (l := out) (p := (n, d)) rfl _ _ rfl rfl rfl rfl hown hz hln ?_; intro v2 w2 hown2 hb2')
                  replace HB2 := hide (HB2.out.trans hb2')
                  replace HO2 := hide hown2
                  clear hown hown2 hb2' hz hln p0 p1 x0 x1
                  have p0 : w2.cell? ⟨b2, o2 + q * 2, none⟩ = some (.int .i64 y1) := ((HB2.out).cell (p := ⟨b2, o2 + q * 2, none⟩) hb2).trans HPC.out.1
                  have p1 : w2.cell? ⟨b2, o2 + q * 2 + 1, none⟩ = some (.int .i64 y2) := ((HB2.out).cell (p := ⟨b2, o2 + q * 2 + 1, none⟩) hb2).trans HPC.out.2
                  have x0 : w2.cell? ⟨X, 0, none⟩ = some (.int .i64 n) := ((HB2.out).cell (p := ⟨X, 0, none⟩) hXlt).trans HX.out.1
                  have x1 : w2.cell? ⟨X, 1, none⟩ = some (.int .i64 d) := ((HB2.out).cell (p := ⟨X, 1, none⟩) hXlt).trans HX.out.2
                  have hz := HB2.out.size
                  have hown := HO2.out
                  have hln : (out ++ [(n, d)]).length ≤ 1000000 := by have := HLO.out; rw [List.length_append]; simp; omega
                  go_wp2_with (at_builtin; refine wp_oneD (l := out ++ [(n, d)]) (p := (y1, y2)) rfl _ _ rfl rfl rfl rfl hown hz hln ?_; intro v3 w3 hown3 hb3)
                  have HO3 := hide hown3
                  have HB3 := hide (HB2.out.trans hb3)
                  clear hown hown3 hb3 hz hln
                  go_wp2_with fail
                  go_roundw
                  case rel => exact ⟨q + 1, _, true, by omega, by go_num, rfl, HO3.out, HN, hide (by have := HLO.out; rw [List.length_append, List.length_append]; simp; omega), HB3.out⟩
                  case measure => simp [intOf]; omega
                | false =>
                  have HN : Hid (PutAt wdLt (n, d) k (q + 1) (out ++ [(y1, y2)]) false) := hide (by have := HP.out.skip hqt hne (by rw [hm]; exact hL); rwa [hm] at this)
                  rw [hL] at HLS
                  clear hL
                  refine wp_region_quiet_below (by kernel_rfl) (by kernel_rfl) ?_
                  repeat (first | go_big_quiet_step ((first | (go_at_call 60; exact Calls.regrown_of (HLS.out _)))) | quiet_step ((first | (go_at_call 60; exact Calls.regrown_of (HLS.out _)))))
                  refine wpQuiet_nil ?_
                  intro _ hw'
                  obtain ⟨⟨nq, osq⟩, hw''⟩ := hw'
                  subst hw''
                  have hq2 := below_regrown wq2 nq osq
                  generalize grow (redrawn wq2 nq) osq = wq3 at *
                  replace HB2 := hide (andthen HB2.out hq2)
                  replace HO2 := hide (HO2.out.keep hq2)
                  clear hq2 f0 f1 f2 f3
                  have p0 : wq3.cell? ⟨b2, o2 + q * 2, none⟩ = some (.int .i64 y1) := ((HB2.out).cell (p := ⟨b2, o2 + q * 2, none⟩) hb2).trans HPC.out.1
                  have p1 : wq3.cell? ⟨b2, o2 + q * 2 + 1, none⟩ = some (.int .i64 y2) := ((HB2.out).cell (p := ⟨b2, o2 + q * 2 + 1, none⟩) hb2).trans HPC.out.2
                  have x0 : wq3.cell? ⟨X, 0, none⟩ = some (.int .i64 n) := ((HB2.out).cell (p := ⟨X, 0, none⟩) hXlt).trans HX.out.1
                  have x1 : wq3.cell? ⟨X, 1, none⟩ = some (.int .i64 d) := ((HB2.out).cell (p := ⟨X, 1, none⟩) hXlt).trans HX.out.2
                  have hz := HB2.out.size
                  have hown := HO2.out
                  have hln : out.length ≤ 1000000 := by have := HL.out; omega
                  clear hm hne
                  go_wp2_with (at_builtin; refine wp_oneD (l := out) (p := (y1, y2)) rfl _ _ rfl rfl rfl rfl hown hz hln ?_; intro v3 w3 hown3 hb3)
                  have HO3 := hide hown3
                  have HB3 := hide (HB2.out.trans hb3)
                  clear hown hown3 hb3 hz hln
                  go_wp2_with fail
                  go_roundw
                  case rel => exact ⟨q + 1, _, false, by omega, by go_num, rfl, HO3.out, HN, hide (by have := HL.out; rw [List.length_append]; simp; omega), HB3.out⟩
                  case measure => simp [intOf]; omega
          · obtain rfl : q = k.length := by omega
            cases f with
            | true =>
              have HF := hide ((HNX.out _ rfl).2 out (by obtain ⟨e, hn⟩ := HP.out.done; rw [putO_yes hn, e]))
              have HBF := hide (andthen HBR.out HBQ.out)
              have HOF := hide (OwnD.low2 HOQ.out HBW.out.size)
              go_wp2_with fail
              go_roundw
              case rel => exact ⟨j + 1, out, by omega, by go_num, HOF.out, HF, HBF.out⟩
              case measure => simp [intOf]; omega
            | false =>
              have HF := hide ((HNX.out _ rfl).2 (out ++ [(n, d)]) (by obtain ⟨e, hn⟩ := HP.out.last; rw [putO_yes hn, e]))
              have x0 : wr.cell? ⟨X, 0, none⟩ = some (.int .i64 n) := ((HBQ.out).cell (p := ⟨X, 0, none⟩) hXlt).trans HX.out.1
              have x1 : wr.cell? ⟨X, 1, none⟩ = some (.int .i64 d) := ((HBQ.out).cell (p := ⟨X, 1, none⟩) hXlt).trans HX.out.2
              have hz := HBQ.out.size
              have hown := HOQ.out
              have hln : out.length ≤ 1000000 := by have := HL.out; omega
              go_wp2_with (at_builtin; refine wp_oneD (l := out) (p := (n, d)) rfl _ _ rfl rfl rfl rfl hown hz hln ?_; intro v3 w3 hown3 hb3)
              have HBF := hide (andthen HBR.out (HBQ.out.trans hb3))
              have HOF := hide (OwnD.low2 hown3 HBW.out.size)
              clear hown hown3 hb3 hz hln
              go_wp2_with fail
              go_roundw
              case rel => exact ⟨j + 1, _, by omega, by go_num, HOF.out, HF, HBF.out⟩
              case measure => simp [intOf]; omega
    · obtain rfl : j = ps.length := by omega
      rw [List.take_length] at HK
      go_wp2_with fail
      go_ret2
      exact ⟨HBW.out, Or.inr ⟨_, _, HK.out, rfl, HO.out⟩⟩

end Go.Proofs.YtffobailjdhijaaGreatDoor

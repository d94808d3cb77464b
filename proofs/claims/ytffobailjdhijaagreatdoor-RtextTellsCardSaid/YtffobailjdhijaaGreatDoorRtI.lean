/- Walks of package rtext: Day, the texts of lists. -/
import Derived.Test.YtffobailjdhijaaGreatDoorRtH
import Derived.Lib.QuietBelow
import Derived.RegionTactic
namespace Go.Proofs.YtffobailjdhijaaGreatDoor
open Go.RowKit Rul Rt Go.Sort

set_option maxHeartbeats 400000 in
theorem Day_no (n d : Int) (w : World) (h : d < 0 ∨ 7 ≤ d) : Calls Tryz.prog 14 #[.agg #[.int .i64 n, .int .i64 d]] w (Ans w (.string (str (dayT (n, d))))) := by
  have hd : Hid (dayT (n, d) = []) := hide (by unfold dayT; rw [if_neg (by simp only; omega)])
  have hlen : dayWs.length = 7 := rfl
  by_cases hl : d < 0
  · clear h
    go_enter Tryz.func14, Tryz.ntmps14
    go_wp2_with fail
    refine (dayWs_any _).mono ?_
    rintro e w1 ⟨b, rfl, hr, hb⟩
    have s1 : w1.cell? ⟨w.heap.size, 1, none⟩ = some (.int .i64 d) := cell_keep hb (by rw [World.cell?_alloc_at _ _ _ _ rfl]; rfl)
    rw [hlen]
    go_wp2_with fail
    go_ret
    exact ⟨by rw [hd.out]; rfl, andthen (more (start w) _) hb⟩
  · have h7 : 7 ≤ d := by omega
    have hl2 : decide (d < 0) = false := decide_eq_false hl
    clear h
    go_enter Tryz.func14, Tryz.ntmps14
    go_wp2_with fail
    refine (dayWs_any _).mono ?_
    rintro e w1 ⟨b, rfl, hr, hb⟩
    have s1 : w1.cell? ⟨w.heap.size, 1, none⟩ = some (.int .i64 d) := cell_keep hb (by rw [World.cell?_alloc_at _ _ _ _ rfl]; rfl)
    rw [hlen]
    go_wp2_with fail
    go_ret
    exact ⟨by rw [hd.out]; rfl, andthen (more (start w) _) hb⟩

set_option maxRecDepth 100000 in
set_option maxHeartbeats 1000000 in
theorem Day_yes (n : Int) (k : Nat) (w : World) (hn : in64 n) (hk : k < 7) (ht : Tab w) : Calls Tryz.prog 14 #[.agg #[.int .i64 n, .int .i64 k]] w (Ans w (.string (str (dayT (n, (k : Int)))))) := by
  have hlen : dayWs.length = 7 := rfl
  have hd : Hid (dayT (n, (k : Int)) = unlessT 0 n ++ dayWs[k]'hk) := hide (by
    unfold dayT
    rw [if_pos (by simp only; omega)]
    simp only [Int.toNat_natCast]
    rw [List.getD_eq_getElem?_getD, List.getElem?_eq_getElem (show k < dayWs.length from hk)]; rfl)
  have HT := hide ht
  have hsU : (str (unlessT 0 n)).size ≤ 30 := by
    rw [str_size]; unfold unlessT; split
    · simp
    · exact Nat.le_trans (Lib.itoa_length_le n hn.1 hn.2) (by omega)
  have HU := hide (fun w ht => unless_any 0 n w hn ht)
  have hsD : (str (dayWs[k]'hk)).size = 2 := by rw [str_size]; exact day_len k hk
  have k0 : (0 : Int) ≤ (k : Int) := by omega
  have k7 : (k : Int) < 7 := by omega
  generalize unlessT 0 n = U at *
  clear ht hn
  go_enter Tryz.func14, Tryz.ntmps14
  go_wp2_with fail
  refine (dayWs_any _).mono ?_
  rintro e w1 ⟨b, rfl, hr, hb⟩
  have s0 : w1.cell? ⟨w.heap.size, 0, none⟩ = some (.int .i64 n) := cell_keep hb (by rw [World.cell?_alloc_at _ _ _ _ rfl]; rfl)
  have s1 : w1.cell? ⟨w.heap.size, 1, none⟩ = some (.int .i64 k) := cell_keep hb (by rw [World.cell?_alloc_at _ _ _ _ rfl]; rfl)
  have c := rowS_at hr k hk
  have HB := hide (andthen (more (start w) _) hb)
  have HT1 := hide (HT.out.below HB.out (Nat.le_refl _))
  generalize dayWs[k]'hk = F at *
  rw [hlen]
  clear hr hb
  go_wp2_with fail
  have f0 := fun d os => cell_regrown s0 d os
  have f1 := fun d os => cell_regrown s1 d os
  have fc := fun d os => cell_regrown c d os
  have T1 := hide (fun d os => HT1.out.below (below_regrown w1 d os) (Nat.le_refl _))
  refine wp_region_quiet_below (by kernel_rfl) (by kernel_rfl) ?_
  repeat (first | go_big_quiet_step ((first | (go_at_call 29; exact Calls.regrown_of (HU.out _ (T1.out _ _))))) | quiet_step ((first | (go_at_call 29; exact Calls.regrown_of (HU.out _ (T1.out _ _))))))
  refine wpQuiet_nil ?_
  intro _ hw'
  obtain ⟨⟨nq, osq⟩, hw''⟩ := hw'
  subst hw''
  go_wp2_with fail
  go_ret
  exact ⟨ret_str (by rw [hd.out, ← str_app]), andthen HB.out (below_regrown w1 nq osq)⟩
theorem Day_any (n d : Int) (w : World) (hn : in64 n) (ht : Tab w) : Calls Tryz.prog 14 #[.agg #[.int .i64 n, .int .i64 d]] w (Ans w (.string (str (dayT (n, d))))) := by
  by_cases h : d < 0 ∨ 7 ≤ d
  · exact Day_no n d w h
  · obtain ⟨k, rfl⟩ : ∃ k : Nat, d = (k : Int) := ⟨d.toNat, by omega⟩
    exact Day_yes n k w hn (by omega) ht
theorem dayT_len (w : Wd) (h : in64 w.1) : (dayT w).length ≤ 40 := by
  unfold dayT
  split
  · rename_i hr
    have : ∀ k : Nat, k < 7 → (dayWs.getD k []).length ≤ 2 := by decide
    have h2 := this w.2.toNat (by omega)
    rw [List.length_append]
    split
    · simp only [List.length_nil]; omega
    · have := Lib.itoa_length_le w.1 h.1 h.2
      omega
  · simp


set_option maxRecDepth 100000 in
set_option maxHeartbeats 1000000 in
theorem listI_any (A : Option Addr) (n c : Nat) (l : List Int) (w : World) (hl : RowI w A l) (hn : n = l.length) (hsz : l.length ≤ 1000) (hb : ∀ x ∈ l, in64 x) (ht : Tab w) :
    Calls Tryz.prog 31 #[.func (.func 32) #[] #[], .slice A n c] w (Ans w (.string (str (listT Lib.itoa l)))) := by
  subst hn
  have HR := hide hl
  have HT := hide ht
  have HB := hide hb
  have HLEN : Hid (∀ p ∈ l.map Lib.itoa, p.length ≤ 100000) := hide (fun p hp => by
    obtain ⟨x, hx, rfl⟩ := List.mem_map.1 hp
    exact Nat.le_trans (Lib.itoa_length_le x (hb x hx).1 (hb x hx).2) (by omega))
  clear hl ht hb
  go_enter Tryz.func31, Tryz.ntmps31
  go_wp2_with (refine wp_makeS rfl _ _ rfl rfl (n := l.length) rfl rfl (by omega) ?_; intro v0 w0 hown0 hb0)
  have HO0 := hide hown0
  have HB0 := hide hb0
  clear hown0 hb0
  go_wp2_with fail
  go_loopw [5, 7, 13] (fun v _ i wr => ∃ j : Nat, j ≤ l.length ∧ i = .int .i64 j ∧ OwnS wr w.heap.size v ((l.take j).map Lib.itoa) ∧ Below w.heap.size w wr) (fun _ _ i _ => l.length - (intOf i).toNat)
  case atStart => exact ⟨0, Nat.zero_le _, rfl, HO0.out, HB0.out⟩
  case round =>
    obtain ⟨j, hj, rfl, hown, hbw⟩ := hrel
    have HO := hide hown
    have HBR := hide hbw
    clear hown hbw
    by_cases hlt : j < l.length
    · obtain ⟨b1, o1, rfl, hb1, hc1⟩ := HR.out (by intro h0; rw [h0] at hlt; exact absurd hlt (Nat.not_lt_zero _))
      obtain ⟨m, hm⟩ : ∃ m, l[j] = m := ⟨_, rfl⟩
      have hmr := HB.out l[j] (List.getElem_mem _)
      rw [hm] at hmr
      have p1 : wr.cell? ⟨b1, o1 + j, none⟩ = some (.int .i64 m) := by rw [← hm]; exact (HBR.out.cell (p := ⟨b1, _, none⟩) hb1).trans (hc1 j hlt)
      have hi0 : (0 : Int) ≤ (j : Int) := by omega
      have hi1 : (j : Int) < (l.length : Int) := by omega
      have HTK : Hid ((l.take (j + 1)).map Lib.itoa = (l.take j).map Lib.itoa ++ [Lib.itoa m]) := hide (by rw [List.take_succ_eq_append_getElem hlt, hm, List.map_append]; rfl)
      have HC := hide (fun w ht => itoa_all m w hmr ht)
      have hln0 : ((l.take j).map Lib.itoa).length ≤ 1000000 := by rw [List.length_map]; exact Nat.le_trans (List.length_take_le _ _) (by omega)
      generalize (l.take j).map Lib.itoa = S at *
      obtain ⟨M, hM⟩ : ∃ M, Lib.itoa m = M := ⟨_, rfl⟩
      rw [hM] at HTK HC
      clear hc1 hm hM
      go_wp2_with fail
      refine (HC.out _ (HT.out.below HBR.out (Nat.le_refl _))).mono ?_
      rintro e v1 ⟨rfl, hbv⟩
      replace HO := hide (HO.out.keep hbv)
      replace HBR := hide (andthen HBR.out hbv)
      have hz := HBR.out.size
      have hown := HO.out
      have hln := hln0
      clear hbv
      go_wp2_with (at_builtin; refine wp_oneS (l := S) (p := M) rfl _ _ rfl rfl rfl rfl hown hz hln ?_; intro v3 w3 hown3 hb3)
      have HO3 := hide hown3
      have HB3 := hide (HBR.out.trans hb3)
      clear hown hown3 hb3 hz hln
      go_wp2_with fail
      go_roundw
      case rel => exact ⟨j + 1, by omega, by go_num, by rw [HTK.out]; exact HO3.out, HB3.out⟩
      case measure => simp [intOf]; omega
    · obtain rfl : j = l.length := by omega
      rw [List.take_length] at HO
      obtain ⟨A2, cap2, rfl, hrow, hcap⟩ := OwnS.row HO.out
      have HRW := hide hrow
      have HCAP := hide hcap
      have HLM : Hid ((l.map Lib.itoa).length ≤ 1000) := hide (by rw [List.length_map]; exact hsz)
      obtain ⟨L, hL⟩ : ∃ L, l.map Lib.itoa = L := ⟨_, rfl⟩
      have HLT : Hid (listT Lib.itoa l = joinAt 44 L) := hide (by unfold listT; rw [hL])
      rw [hL] at HO HRW HCAP HLM HLEN ⊢
      clear hrow hcap hL
      go_wp2_with fail
      refine (join_all 44 _ rfl A2 _ cap2 L _ HRW.out rfl HCAP.out HLM.out HLEN.out).mono ?_
      rintro e v1 ⟨rfl, hbv⟩
      go_wp2_with fail
      go_ret
      exact ⟨ret_str (by rw [HLT.out]), andthen HBR.out hbv⟩

set_option maxRecDepth 100000 in
set_option maxHeartbeats 1000000 in
theorem listD_any (A : Option Addr) (n c : Nat) (l : List Wd) (w : World) (hl : RowD w A l) (hn : n = l.length) (hsz : l.length ≤ 1000) (hb : ∀ x ∈ l, in64 x.1) (ht : Tab w) :
    Calls Tryz.prog 33 #[.func (.func 14) #[] #[], .slice A n c] w (Ans w (.string (str (listT dayT l)))) := by
  subst hn
  have HR := hide hl
  have HT := hide ht
  have HB := hide hb
  have HLEN : Hid (∀ p ∈ l.map dayT, p.length ≤ 100000) := hide (fun p hp => by
    obtain ⟨x, hx, rfl⟩ := List.mem_map.1 hp
    exact Nat.le_trans (dayT_len x (hb x hx)) (by omega))
  clear hl ht hb
  go_enter Tryz.func33, Tryz.ntmps33
  go_wp2_with (refine wp_makeS rfl _ _ rfl rfl (n := l.length) rfl rfl (by omega) ?_; intro v0 w0 hown0 hb0)
  have HO0 := hide hown0
  have HB0 := hide hb0
  clear hown0 hb0
  go_wp2_with fail
  go_loopw [5, 7, 13] (fun v _ i wr => ∃ j : Nat, j ≤ l.length ∧ i = .int .i64 j ∧ OwnS wr w.heap.size v ((l.take j).map dayT) ∧ Below w.heap.size w wr) (fun _ _ i _ => l.length - (intOf i).toNat)
  case atStart => exact ⟨0, Nat.zero_le _, rfl, HO0.out, HB0.out⟩
  case round =>
    obtain ⟨j, hj, rfl, hown, hbw⟩ := hrel
    have HO := hide hown
    have HBR := hide hbw
    clear hown hbw
    by_cases hlt : j < l.length
    · obtain ⟨b1, o1, rfl, hb1, hc1⟩ := HR.out (by intro h0; rw [h0] at hlt; exact absurd hlt (Nat.not_lt_zero _))
      obtain ⟨m, hm⟩ : ∃ m, l[j] = m := ⟨_, rfl⟩
      have hmr := HB.out l[j] (List.getElem_mem _)
      rw [hm] at hmr
      have p1 : wr.cell? ⟨b1, o1 + j * 2, none⟩ = some (.int .i64 m.1) := by rw [← hm]; exact (HBR.out.cell (p := ⟨b1, _, none⟩) hb1).trans (hc1 j hlt).1
      have p2 : wr.cell? ⟨b1, o1 + j * 2 + 1, none⟩ = some (.int .i64 m.2) := by rw [← hm]; exact (HBR.out.cell (p := ⟨b1, _, none⟩) hb1).trans (hc1 j hlt).2
      have hi0 : (0 : Int) ≤ (j : Int) := by omega
      have hi1 : (j : Int) < (l.length : Int) := by omega
      have HTK : Hid ((l.take (j + 1)).map dayT = (l.take j).map dayT ++ [dayT m]) := hide (by rw [List.take_succ_eq_append_getElem hlt, hm, List.map_append]; rfl)
      have HC : Hid (∀ w, Tab w → Calls Tryz.prog 14 #[.agg #[.int .i64 m.1, .int .i64 m.2]] w (Ans w (.string (str (dayT m))))) := hide (fun w ht => Day_any m.1 m.2 w hmr ht)
      have hln0 : ((l.take j).map dayT).length ≤ 1000000 := by rw [List.length_map]; exact Nat.le_trans (List.length_take_le _ _) (by omega)
      generalize (l.take j).map dayT = S at *
      obtain ⟨M, hM⟩ : ∃ M, dayT m = M := ⟨_, rfl⟩
      rw [hM] at HTK HC
      clear hc1 hm hM
      have hbV := more (start wr) (.cells #[.int .i64 m.1, .int .i64 m.2] 27)
      replace HO := hide (HO.out.keep hbV)
      replace HBR := hide (andthen HBR.out hbV)
      clear hbV
      go_wp2_with fail
      refine (HC.out _ (HT.out.below HBR.out (Nat.le_refl _))).mono ?_
      rintro e v1 ⟨rfl, hbv⟩
      replace HO := hide (HO.out.keep hbv)
      replace HBR := hide (andthen HBR.out hbv)
      have hz := HBR.out.size
      have hown := HO.out
      have hln := hln0
      clear hbv
      go_wp2_with (at_builtin; refine wp_oneS (l := S) (p := M) rfl _ _ rfl rfl rfl rfl hown hz hln ?_; intro v3 w3 hown3 hb3)
      have HO3 := hide hown3
      have HB3 := hide (HBR.out.trans hb3)
      clear hown hown3 hb3 hz hln
      go_wp2_with fail
      go_roundw
      case rel => exact ⟨j + 1, by omega, by go_num, by rw [HTK.out]; exact HO3.out, HB3.out⟩
      case measure => simp [intOf]; omega
    · obtain rfl : j = l.length := by omega
      rw [List.take_length] at HO
      obtain ⟨A2, cap2, rfl, hrow, hcap⟩ := OwnS.row HO.out
      have HRW := hide hrow
      have HCAP := hide hcap
      have HLM : Hid ((l.map dayT).length ≤ 1000) := hide (by rw [List.length_map]; exact hsz)
      obtain ⟨L, hL⟩ : ∃ L, l.map dayT = L := ⟨_, rfl⟩
      have HLT : Hid (listT dayT l = joinAt 44 L) := hide (by unfold listT; rw [hL])
      rw [hL] at HO HRW HCAP HLM HLEN ⊢
      clear hrow hcap hL
      go_wp2_with fail
      refine (join_all 44 _ rfl A2 _ cap2 L _ HRW.out rfl HCAP.out HLM.out HLEN.out).mono ?_
      rintro e v1 ⟨rfl, hbv⟩
      go_wp2_with fail
      go_ret
      exact ⟨ret_str (by rw [HLT.out]), andthen HBR.out hbv⟩

end Go.Proofs.YtffobailjdhijaaGreatDoor

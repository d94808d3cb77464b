/- RtextDays walked. -/
import Derived.Test.YtffobailjdhijaaGreatDoorRtN
import Derived.Deep.Cut
namespace Go.Proofs.YtffobailjdhijaaGreatDoor
open Go.RowKit Rul Rt Go.Sort

theorem name_cell (w : World) (X : Nat) (hX : w.heap.size = X) : ∀ (i : Nat) (hi : i < dayWs.length), (w.alloc (.cells #[.string ⟨#[77, 79]⟩, .string ⟨#[84, 85]⟩, .string ⟨#[87, 69]⟩, .string ⟨#[84, 72]⟩, .string ⟨#[70, 82]⟩, .string ⟨#[83, 65]⟩, .string ⟨#[83, 85]⟩] 47)).cell? ⟨X, i, none⟩ = some (.string (str dayWs[i])) := by
  subst hX
  intro i hi
  have h7 : i < 7 := hi
  rw [World.cell?_alloc_at _ _ _ _ rfl]
  rcases i with _ | _ | _ | _ | _ | _ | _ | i
  all_goals first | rfl | omega
def dayR (k d : Int) : Option T := if -5 ≤ k ∧ k ≤ 5 then some ⟨3, 1, 0, -1, [(k, d)], [], []⟩ else none
theorem days_all : ∀ i : Nat, i < 13 → ∀ d : Nat, d < 7 → ansC unU ([70, 82, 69, 81, 61, 77, 79, 78, 84, 72, 76, 89, 59, 66, 89, 68, 65, 89, 61] ++ dayT ((i : Int) - 6, (d : Int))) = dayR ((i : Int) - 6) d ∧ printE unU ⟨3, 1, 0, -1, [((i : Int) - 6, (d : Int))], [], []⟩ = (if 1 ≤ i ∧ i ≤ 11 then [70, 82, 69, 81, 61, 77, 79, 78, 84, 72, 76, 89, 59, 66, 89, 68, 65, 89, 61] ++ dayT ((i : Int) - 6, (d : Int)) else []) ∧ (dayT ((i : Int) - 6, (d : Int))).length ≤ 10 := by decide +kernel
theorem days_at (k d : Int) (hk : -6 ≤ k ∧ k ≤ 6) (hd : 0 ≤ d ∧ d < 7) : ansC unU ([70, 82, 69, 81, 61, 77, 79, 78, 84, 72, 76, 89, 59, 66, 89, 68, 65, 89, 61] ++ dayT (k, d)) = dayR k d ∧ (-5 ≤ k ∧ k ≤ 5 → printE unU ⟨3, 1, 0, -1, [(k, d)], [], []⟩ = [70, 82, 69, 81, 61, 77, 79, 78, 84, 72, 76, 89, 59, 66, 89, 68, 65, 89, 61] ++ dayT (k, d)) ∧ (dayT (k, d)).length ≤ 10 := by
  have h := days_all (k + 6).toNat (by omega) d.toNat (by omega)
  have e1 : (((k + 6).toNat : Nat) : Int) - 6 = k := by omega
  have e2 : ((d.toNat : Nat) : Int) = d := by omega
  rw [e1, e2] at h
  refine ⟨h.1, fun hr => ?_, h.2.2⟩
  rw [h.2.1, if_pos (by omega)]
theorem dayT_0 (d : Nat) (hd : d < dayWs.length) : dayT (0, (d : Int)) = dayWs[d] := by
  unfold dayT
  rw [if_pos (show 0 ≤ (d : Int) ∧ (d : Int) < 7 from ⟨by omega, by have : d < 7 := hd; omega⟩), if_pos rfl]
  simp [List.getD_eq_getElem?_getD, List.getElem?_eq_getElem hd]
theorem dayT_k (k : Int) (d : Nat) (hd : d < dayWs.length) (hk : k ≠ 0) : dayT (k, (d : Int)) = Lib.itoa k ++ dayWs[d] := by
  unfold dayT
  rw [if_pos (show 0 ≤ (d : Int) ∧ (d : Int) < 7 from ⟨by omega, by have : d < 7 := hd; omega⟩), if_neg hk]
  simp [List.getD_eq_getElem?_getD, List.getElem?_eq_getElem hd]

set_option linter.unusedVariables false in
set_option maxRecDepth 100000 in
set_option maxHeartbeats 4000000 in
theorem days_any (n d : Int) (w : World) (he : Env w) (n1 : -128 ≤ n) (n2 : n ≤ 127) (d1 : 0 ≤ d) (d2 : d ≤ 255) :
    Calls Tryz.prog 7 #[.int .i8 n, .int .u8 d] w (Ans w (.bool true)) := by
  have HE := hide he
  clear he
  obtain ⟨k, hk, hk1, hk2⟩ : ∃ k : Int, n.tmod 7 = k ∧ -6 ≤ k ∧ k ≤ 6 := by
    refine ⟨_, rfl, ?_⟩
    by_cases h : 0 ≤ n
    · rw [Int.tmod_eq_emod_of_nonneg h]; omega
    · have e : n.tmod 7 = -((-n).tmod 7) := by rw [Int.neg_tmod]; omega
      rw [e, Int.tmod_eq_emod_of_nonneg (by omega)]; omega
  obtain ⟨i, hi, hx⟩ : ∃ i : Nat, i < 7 ∧ d.tmod 7 = (i : Int) := ⟨(d % 7).toNat, by omega, by rw [Int.tmod_eq_emod_of_nonneg d1]; omega⟩
  have hib : i < dayWs.length := hi
  have HC := hide (fun w X hX => name_cell w X hX i hib)
  have HD := hide (days_at k (i : Int) ⟨hk1, hk2⟩ ⟨by omega, by omega⟩)
  have HT0 := hide (dayT_0 i hib)
  have HTk := hide (dayT_k k i hib)
  have hWl : (dayWs[i]'hib).length = 2 := day_len i hi
  obtain ⟨N, hN⟩ : ∃ N, dayWs[i] = N := ⟨_, rfl⟩
  rw [hN] at HC HT0 HTk hWl
  clear hN hib
  have hNs : (str N).size ≤ 2 := by rw [str_size]; omega
  have i0 : (0 : Int) ≤ (i : Int) := by omega
  have i1 : (i : Int) < 7 := by omega
  clear hi hWl
  go_enter Tryz.func7, Tryz.ntmps7
  go_wp2_with fail
  refine (known_any _ HE.out).mono ?_
  rintro e w1 ⟨rfl, hb1⟩
  have HB := hide hb1
  clear hb1
  obtain ⟨X, hX⟩ : ∃ X, w1.heap.size = X := ⟨_, rfl⟩
  have c := HC.out w1 X hX
  replace HB := hide (more HB.out (.cells #[.string ⟨#[77, 79]⟩, .string ⟨#[84, 85]⟩, .string ⟨#[87, 69]⟩, .string ⟨#[84, 72]⟩, .string ⟨#[70, 82]⟩, .string ⟨#[83, 65]⟩, .string ⟨#[83, 85]⟩] 47))
  by_cases h0 : k = 0
  · subst h0
    have HA : Hid (ansC unU ([70, 82, 69, 81, 61, 77, 79, 78, 84, 72, 76, 89, 59, 66, 89, 68, 65, 89, 61] ++ N) = some ⟨3, 1, 0, -1, [(0, (i : Int))], [], []⟩) := hide (by rw [← HT0.out, HD.out.1]; rfl)
    have HPT : Hid (printE unU ⟨3, 1, 0, -1, [(0, (i : Int))], [], []⟩ = [70, 82, 69, 81, 61, 77, 79, 78, 84, 72, 76, 89, 59, 66, 89, 68, 65, 89, 61] ++ N) := hide (by rw [HD.out.2.1 ⟨by omega, by omega⟩, HT0.out])
    have HT := HT0
    have hNl : N.length ≤ 2 := by rw [str_size] at hNs; exact hNs
    clear HT0 HTk HD HC
    go_wp2_with fail
    have eS : (⟨#[70, 82, 69, 81, 61, 77, 79, 78, 84, 72, 76, 89, 59, 66, 89, 68, 65, 89, 61]⟩ : ByteArray) ++ str N = str ([70, 82, 69, 81, 61, 77, 79, 78, 84, 72, 76, 89, 59, 66, 89, 68, 65, 89, 61] ++ N) := by rw [← str_app]; rfl
    rw [eS]
    have HES := hide eS
    have hlen : (([70, 82, 69, 81, 61, 77, 79, 78, 84, 72, 76, 89, 59, 66, 89, 68, 65, 89, 61] : Tx) ++ N).length ≤ 100000 := by rw [List.length_append]; simp only [List.length_cons, List.length_nil]; omega
    have HP := hide (fun w he => parse_some HA.out hlen w he)
    clear hlen
    refine (HP.out _ (HE.out.keep HB.out)).mono ?_
    rintro e w4 ⟨hb4, D, dc, M, mc, Y, yc, rfl, hl⟩
    simp only [List.length_cons, List.length_nil]
    obtain ⟨Z, hZ⟩ : ∃ Z, w4.heap.size = Z := ⟨_, rfl⟩
    obtain ⟨q0, q1, q2, q3, q4, q5, q6⟩ := box_cells w4 25 (.int .i64 3) (.int .i64 1) (.int .i64 0) (.int .i64 (-1)) (.slice D 1 dc) (.slice M 0 mc) (.slice Y 0 yc) hZ
    replace HB := hide (more (andthen HB.out hb4) (.cells #[.int .i64 3, .int .i64 1, .int .i64 0, .int .i64 (-1), .slice D 1 dc, .slice M 0 mc, .slice Y 0 yc] 25))
    have HL : Hid (Lies (w4.alloc (.cells #[.int .i64 3, .int .i64 1, .int .i64 0, .int .i64 (-1), .slice D 1 dc, .slice M 0 mc, .slice Y 0 yc] 25)) D 1 M 0 Y 0 [(0, (i : Int))] [] []) := hide (hl.keep (more (start w4) (.cells #[.int .i64 3, .int .i64 1, .int .i64 0, .int .i64 (-1), .slice D 1 dc, .slice M 0 mc, .slice Y 0 yc] 25)))
    obtain ⟨g, o, rfl, hg, hc⟩ := HL.out.d (by simp)
    have y0 : _ = some (Value.int .i64 0) := (hc 0 (by simp)).1
    have y1 : _ = some (Value.int .i64 (i : Int)) := (hc 0 (by simp)).2
    simp only [Nat.zero_mul, Nat.add_zero] at y0 y1
    have HDY := hide (fun w ht => Day_any 0 (i : Int) w (by unfold in64; omega) ht)
    have HPR := hide (fun w hl ht => Print_any 3 1 0 (-1) (some ⟨g, o, none⟩) M Y 1 dc 0 mc 0 yc [(0, (i : Int))] [] [] w hl ht)
    rw [HT.out] at HDY
    rw [HPT.out, ← HES.out] at HPR
    have HQ := hide (And.intro q0 (And.intro q1 (And.intro q2 (And.intro q3 (And.intro q4 (And.intro q5 q6))))))
    clear hl hc hb4
    go_upto_region 11 with fail
    clear i0 i1 hX hx n1 n2 d1 d2 eS
    go_wp2_with fail
    refine (HDY.out _ (HE.out.keep HB.out).tab).mono ?_
    rintro e w5 ⟨rfl, hb5⟩
    replace HB := hide (andthen HB.out hb5)
    replace HL := hide (HL.out.keep hb5)
    clear q0 q1 q2 q3 q4 q5 q6 y0 y1
    have q0 := cell_keep hb5 HQ.out.1
    have q1 := cell_keep hb5 HQ.out.2.1
    have q2 := cell_keep hb5 HQ.out.2.2.1
    have q3 := cell_keep hb5 HQ.out.2.2.2.1
    have q4 := cell_keep hb5 HQ.out.2.2.2.2.1
    have q5 := cell_keep hb5 HQ.out.2.2.2.2.2.1
    have q6 := cell_keep hb5 HQ.out.2.2.2.2.2.2
    clear hb5 HQ hg
    go_wp2_with fail
    refine (HPR.out _ HL.out (HE.out.keep HB.out).tab).mono ?_
    rintro e w6 ⟨rfl, hb6⟩
    replace HB := hide (andthen HB.out hb6)
    clear hb6 q0 q1 q2 q3 q4 q5 q6
    go_wp2_with fail
    go_ret
    exact ⟨rfl, HB.out⟩
  · have HA0 := HD.out.1
    have HPT0 := HD.out.2.1
    have HT0k := HTk.out h0
    have hSl := HD.out.2.2
    have HI := hide (fun w => tNum_any k w (by omega) (by omega))
    have hIl : (Lib.itoa k).length ≤ 10 := by rw [HT0k, List.length_append] at hSl; omega
    rw [HT0k] at HA0 HPT0 hSl
    obtain ⟨I, hI⟩ : ∃ I, Lib.itoa k = I := ⟨_, rfl⟩
    rw [hI] at HA0 HPT0 hSl HI hIl HT0k
    have hIs : (str I).size ≤ 10 := by rw [str_size]; exact hIl
    have HAA := hide HA0
    have HPP := hide HPT0
    have HT : Hid (dayT (k, (i : Int)) = I ++ N) := hide HT0k
    have HKB := hide (And.intro hk1 hk2)
    have HHZ := hide h0
    have h00 : (k != 0) = true := by simp [h0]
    clear HA0 HPT0 HT0k HT0 HTk HD HC hI hIl
    go_upto_region 6 with fail
    clear hk hx n1 n2 d1 d2 i0 i1 hk1 hk2 h0 c hX
    go_wp2_with fail
    refine (HI.out _).mono ?_
    rintro e w2 ⟨rfl, hb2⟩
    replace HB := hide (andthen HB.out hb2)
    clear hb2 HI
    obtain ⟨hk1, hk2⟩ := HKB.out
    go_upto_region 8 with fail
    rw [str_app]
    have hSs : (str (I ++ N)).size ≤ 10 := by rw [str_size]; exact hSl
    generalize I ++ N = S at *
    clear hIs hNs
    go_wp2_with fail
    by_cases h5 : -5 ≤ k ∧ k ≤ 5
    · have HA : Hid (ansC unU ([70, 82, 69, 81, 61, 77, 79, 78, 84, 72, 76, 89, 59, 66, 89, 68, 65, 89, 61] ++ S) = some ⟨3, 1, 0, -1, [(k, (i : Int))], [], []⟩) := hide (by rw [HAA.out]; unfold dayR; rw [if_pos h5])
      have HPT : Hid (printE unU ⟨3, 1, 0, -1, [(k, (i : Int))], [], []⟩ = [70, 82, 69, 81, 61, 77, 79, 78, 84, 72, 76, 89, 59, 66, 89, 68, 65, 89, 61] ++ S) := hide (HPP.out h5)
      clear HAA HPP
      have eS : (⟨#[70, 82, 69, 81, 61, 77, 79, 78, 84, 72, 76, 89, 59, 66, 89, 68, 65, 89, 61]⟩ : ByteArray) ++ str S = str ([70, 82, 69, 81, 61, 77, 79, 78, 84, 72, 76, 89, 59, 66, 89, 68, 65, 89, 61] ++ S) := by rw [← str_app]; rfl
      rw [eS]
      have HES := hide eS
      have hlen : (([70, 82, 69, 81, 61, 77, 79, 78, 84, 72, 76, 89, 59, 66, 89, 68, 65, 89, 61] : Tx) ++ S).length ≤ 100000 := by rw [List.length_append]; simp only [List.length_cons, List.length_nil]; omega
      have HP := hide (fun w he => parse_some HA.out hlen w he)
      clear hlen
      refine (HP.out _ (HE.out.keep HB.out)).mono ?_
      rintro e w4 ⟨hb4, D, dc, M, mc, Y, yc, rfl, hl⟩
      simp only [List.length_cons, List.length_nil]
      obtain ⟨Z, hZ⟩ : ∃ Z, w4.heap.size = Z := ⟨_, rfl⟩
      obtain ⟨q0, q1, q2, q3, q4, q5, q6⟩ := box_cells w4 25 (.int .i64 3) (.int .i64 1) (.int .i64 0) (.int .i64 (-1)) (.slice D 1 dc) (.slice M 0 mc) (.slice Y 0 yc) hZ
      replace HB := hide (more (andthen HB.out hb4) (.cells #[.int .i64 3, .int .i64 1, .int .i64 0, .int .i64 (-1), .slice D 1 dc, .slice M 0 mc, .slice Y 0 yc] 25))
      have HL : Hid (Lies (w4.alloc (.cells #[.int .i64 3, .int .i64 1, .int .i64 0, .int .i64 (-1), .slice D 1 dc, .slice M 0 mc, .slice Y 0 yc] 25)) D 1 M 0 Y 0 [(k, (i : Int))] [] []) := hide (hl.keep (more (start w4) (.cells #[.int .i64 3, .int .i64 1, .int .i64 0, .int .i64 (-1), .slice D 1 dc, .slice M 0 mc, .slice Y 0 yc] 25)))
      obtain ⟨g, o, rfl, hg, hc⟩ := HL.out.d (by simp)
      have y0 : _ = some (Value.int .i64 k) := (hc 0 (by simp)).1
      have y1 : _ = some (Value.int .i64 (i : Int)) := (hc 0 (by simp)).2
      simp only [Nat.zero_mul, Nat.add_zero] at y0 y1
      have HDY := hide (fun w ht => Day_any k (i : Int) w (by unfold in64; omega) ht)
      have HPR := hide (fun w hl ht => Print_any 3 1 0 (-1) (some ⟨g, o, none⟩) M Y 1 dc 0 mc 0 yc [(k, (i : Int))] [] [] w hl ht)
      rw [HT.out] at HDY
      rw [HPT.out, ← HES.out] at HPR
      have HQ := hide (And.intro q0 (And.intro q1 (And.intro q2 (And.intro q3 (And.intro q4 (And.intro q5 q6))))))
      clear hl hc hb4
      have g5 : decide (5 < max k (-k)) = false := decide_eq_false (by omega)
      go_upto_region 11 with fail
      clear eS
      go_wp2_with fail
      refine (HDY.out _ (HE.out.keep HB.out).tab).mono ?_
      rintro e w5 ⟨rfl, hb5⟩
      replace HB := hide (andthen HB.out hb5)
      replace HL := hide (HL.out.keep hb5)
      clear q0 q1 q2 q3 q4 q5 q6 y0 y1
      have q0 := cell_keep hb5 HQ.out.1
      have q1 := cell_keep hb5 HQ.out.2.1
      have q2 := cell_keep hb5 HQ.out.2.2.1
      have q3 := cell_keep hb5 HQ.out.2.2.2.1
      have q4 := cell_keep hb5 HQ.out.2.2.2.2.1
      have q5 := cell_keep hb5 HQ.out.2.2.2.2.2.1
      have q6 := cell_keep hb5 HQ.out.2.2.2.2.2.2
      clear hb5 HQ hg
      go_wp2_with fail
      refine (HPR.out _ HL.out (HE.out.keep HB.out).tab).mono ?_
      rintro e w6 ⟨rfl, hb6⟩
      replace HB := hide (andthen HB.out hb6)
      clear hb6 q0 q1 q2 q3 q4 q5 q6
      go_wp2_with fail
      go_ret
      exact ⟨rfl, HB.out⟩
    · have HA : Hid (ansC unU ([70, 82, 69, 81, 61, 77, 79, 78, 84, 72, 76, 89, 59, 66, 89, 68, 65, 89, 61] ++ S) = none) := hide (by rw [HAA.out]; unfold dayR; rw [if_neg h5])
      clear HAA HPP
      have eS : (⟨#[70, 82, 69, 81, 61, 77, 79, 78, 84, 72, 76, 89, 59, 66, 89, 68, 65, 89, 61]⟩ : ByteArray) ++ str S = str ([70, 82, 69, 81, 61, 77, 79, 78, 84, 72, 76, 89, 59, 66, 89, 68, 65, 89, 61] ++ S) := by rw [← str_app]; rfl
      rw [eS]
      have hlen : (([70, 82, 69, 81, 61, 77, 79, 78, 84, 72, 76, 89, 59, 66, 89, 68, 65, 89, 61] : Tx) ++ S).length ≤ 100000 := by rw [List.length_append]; simp only [List.length_cons, List.length_nil]; omega
      have HP := hide (fun w he => parse_none HA.out hlen w he)
      clear hlen eS
      refine (HP.out _ (HE.out.keep HB.out)).mono ?_
      rintro e w4 ⟨rfl, hb4⟩
      unfold noRule
      replace HB := hide (more (andthen HB.out hb4) (.cells #[.int .i64 0, .int .i64 0, .int .i64 0, .int .i64 0, .slice none 0 0, .slice none 0 0, .slice none 0 0] 25))
      have HDY := hide (fun w ht => Day_any k (i : Int) w (by unfold in64; omega) ht)
      rw [HT.out] at HDY
      have g5 : decide (5 < max k (-k)) = true := decide_eq_true (by omega)
      clear hb4
      go_wp2_with fail
      refine (HDY.out _ (HE.out.keep HB.out).tab).mono ?_
      rintro e w5 ⟨rfl, hb5⟩
      replace HB := hide (andthen HB.out hb5)
      clear hb5
      go_wp2_with fail
      go_ret
      exact ⟨rfl, HB.out⟩


end Go.Proofs.YtffobailjdhijaaGreatDoor

/- RtextLists walked. -/
import Derived.Test.YtffobailjdhijaaGreatDoorRtLisF
import Derived.Test.YtffobailjdhijaaGreatDoorRuU
import Derived.Deep.Cut
namespace Go.Proofs.YtffobailjdhijaaGreatDoor
open Go.RowKit Rul Rt Go.Sort

theorem two_lies (w : World) (x y : Int) (t : TypeId) (o : Obj) : Lies ((w.alloc (.cells #[.int .i64 x, .int .i64 y] t)).alloc o) none 0 (some ⟨w.heap.size, 0, none⟩) 2 none 0 [] [x, y] [] := by
  have k : RowI (w.alloc (.cells #[.int .i64 x, .int .i64 y] t)) (some ⟨w.heap.size, 0, none⟩) [x, y] := fun _ => ⟨_, _, rfl, by simp, fun i hi => by
    rw [World.cell?_alloc_at _ _ _ _ rfl]
    rcases i with _ | _ | i
    all_goals first | rfl | (simp at hi; omega)⟩
  exact ⟨RowD.nil _ _, rfl, by simp, k.keep (more (start _) o), rfl, by simp, RowI.nil _ _, rfl, by simp⟩
set_option linter.unusedVariables false in
set_option maxRecDepth 100000 in
set_option maxHeartbeats 4000000 in
theorem lists_any (a b : Int) (sw : Bool) (w : World) (he : Env w) (a1 : -128 ≤ a) (a2 : a ≤ 127) (b1 : -128 ≤ b) (b2 : b ≤ 127) :
    Calls Tryz.prog 6 #[.int .i8 a, .int .i8 b, .bool sw] w (Ans w (.bool true)) := by
  have HE := hide he
  clear he
  obtain ⟨x, hx, x1, x2⟩ : ∃ x : Int, a.tmod 31 = x ∧ -30 ≤ x ∧ x ≤ 30 := by
    refine ⟨_, rfl, ?_⟩
    by_cases h : 0 ≤ a
    · rw [Int.tmod_eq_emod_of_nonneg h]; omega
    · have e : a.tmod 31 = -((-a).tmod 31) := by rw [Int.neg_tmod]; omega
      rw [e, Int.tmod_eq_emod_of_nonneg (by omega)]; omega
  obtain ⟨y, hy, y1, y2⟩ : ∃ y : Int, b.tmod 31 = y ∧ -30 ≤ y ∧ y ≤ 30 := by
    refine ⟨_, rfl, ?_⟩
    by_cases h : 0 ≤ b
    · rw [Int.tmod_eq_emod_of_nonneg h]; omega
    · have e : b.tmod 31 = -((-b).tmod 31) := by rw [Int.neg_tmod]; omega
      rw [e, Int.tmod_eq_emod_of_nonneg (by omega)]; omega
  have HLX := hide (lis_at x y ⟨x1, x2⟩ ⟨y1, y2⟩)
  have HLY := hide (lis_at y x ⟨y1, y2⟩ ⟨x1, x2⟩)
  by_cases h0 : x = 0
  · have e0 : (x == 0) = true := by simp [h0]
    clear HLX HLY
    go_enter Tryz.func6, Tryz.ntmps6
    go_wp2_with fail
    refine (known_any _ HE.out).mono ?_
    rintro e w1 ⟨rfl, hb1⟩
    go_wp2_with fail
    go_ret
    exact ⟨rfl, hb1⟩
  have e0 : (x == 0) = false := by simp [h0]
  by_cases h1 : y = 0
  · have e1 : (y == 0) = true := by simp [h1]
    clear HLX HLY h0
    go_enter Tryz.func6, Tryz.ntmps6
    go_wp2_with fail
    refine (known_any _ HE.out).mono ?_
    rintro e w1 ⟨rfl, hb1⟩
    go_wp2_with fail
    go_ret
    exact ⟨rfl, hb1⟩
  have e1 : (y == 0) = false := by simp [h1]
  by_cases h2 : y < x
  · have e2 : decide (y < x) = true := decide_eq_true h2
    clear HLX HLY h0 h1
    go_enter Tryz.func6, Tryz.ntmps6
    go_wp2_with fail
    refine (known_any _ HE.out).mono ?_
    rintro e w1 ⟨rfl, hb1⟩
    go_wp2_with fail
    go_ret
    exact ⟨rfl, hb1⟩
  have e2 : decide (y < x) = false := decide_eq_false h2
  have hok := HLX.out.1
  unfold lisOk at hok
  rw [decide_eq_false h0, decide_eq_false h1, e2] at hok
  simp only [Bool.false_or] at hok
  obtain ⟨P, hP⟩ : ∃ P, Lib.itoa x = P := ⟨_, rfl⟩
  obtain ⟨Q, hQ⟩ : ∃ Q, Lib.itoa y = Q := ⟨_, rfl⟩
  have HPc := hide (fun w => tNum_any x w (by omega) (by omega))
  have HQc := hide (fun w => tNum_any y w (by omega) (by omega))
  have hPl := HLX.out.2
  have hQl := HLY.out.2
  unfold lisT at hok
  rw [hP] at hok HPc hPl
  rw [hQ] at hok HQc hQl
  have hPs : (str P).size ≤ 3 := by rw [str_size]; exact hPl
  have hQs : (str Q).size ≤ 3 := by rw [str_size]; exact hQl
  have HOK := hide hok
  have HXY := hide (And.intro (And.intro x1 x2) (And.intro y1 y2))
  have HH2 := hide h2
  have HPQ : Hid (x = y → P = Q) := hide (fun h => by rw [← hP, ← hQ, h])
  clear HLX HLY h0 h1 h2 hP hQ hok
  go_enter Tryz.func6, Tryz.ntmps6
  go_wp2_with fail
  refine (known_any _ HE.out).mono ?_
  rintro e w1 ⟨rfl, hb1⟩
  have HB := hide hb1
  clear hb1
  go_wp2_with fail
  refine (HPc.out _).mono ?_
  rintro e w2 ⟨rfl, hb2⟩
  replace HB := hide (andthen HB.out hb2)
  clear hb2 hx hy a1 a2 b1 b2 x1 x2 y1 y2
  go_wp2_with fail
  refine (HQc.out _).mono ?_
  rintro e w3 ⟨rfl, hb3⟩
  replace HB := hide (andthen HB.out hb3)
  clear hb3 HPc HQc e0 e1 e2
  cases sw
  · by_cases hxy : x = y
    · rw [if_pos hxy] at HOK
      have HA := hide (of_decide_eq_true HOK.out)
      have e3 : (x == y) = true := by simp [hxy]
      clear HOK hxy HPQ
      have eT : ((((⟨#[66, 89, 77, 79, 78, 84, 72, 68, 65, 89, 61]⟩ : ByteArray) ++ str P) ++ (⟨#[44]⟩ : ByteArray)) ++ str Q) ++ (⟨#[59, 70, 82, 69, 81, 61, 77, 79, 78, 84, 72, 76, 89]⟩ : ByteArray) = str ((([66, 89, 77, 79, 78, 84, 72, 68, 65, 89, 61] ++ P) ++ [44]) ++ Q ++ [59, 70, 82, 69, 81, 61, 77, 79, 78, 84, 72, 76, 89]) := by rw [← str_app, ← str_app, ← str_app, ← str_app]; rfl
      have s1 : ((⟨#[66, 89, 77, 79, 78, 84, 72, 68, 65, 89, 61]⟩ : ByteArray) ++ str P).size ≤ 14 := by rw [ByteArray.size_append]; have : (⟨#[66, 89, 77, 79, 78, 84, 72, 68, 65, 89, 61]⟩ : ByteArray).size = 11 := rfl; omega
      have s2 : (((⟨#[66, 89, 77, 79, 78, 84, 72, 68, 65, 89, 61]⟩ : ByteArray) ++ str P) ++ (⟨#[44]⟩ : ByteArray)).size ≤ 15 := by rw [ByteArray.size_append]; have : (⟨#[44]⟩ : ByteArray).size = 1 := rfl; omega
      have s3 : ((((⟨#[66, 89, 77, 79, 78, 84, 72, 68, 65, 89, 61]⟩ : ByteArray) ++ str P) ++ (⟨#[44]⟩ : ByteArray)) ++ str Q).size ≤ 18 := by rw [ByteArray.size_append]; omega
      have hlen : (((([66, 89, 77, 79, 78, 84, 72, 68, 65, 89, 61] ++ P) ++ [44]) ++ Q ++ [59, 70, 82, 69, 81, 61, 77, 79, 78, 84, 72, 76, 89] : Tx)).length ≤ 100000 := by simp only [List.length_append, List.length_cons, List.length_nil]; omega
      have HT := hide eT
      have HLN := hide hlen
      clear eT hlen
      go_wp2_with fail
      rw [HT.out]
      clear s1 s2 s3
      refine (parse_none HA.out HLN.out _ (HE.out.keep HB.out)).mono ?_
      rintro e w4 ⟨rfl, hb4⟩
      unfold noRule
      replace HB := hide (more (andthen HB.out hb4) (.cells #[.int .i64 0, .int .i64 0, .int .i64 0, .int .i64 0, .slice none 0 0, .slice none 0 0, .slice none 0 0] 25))
      clear hb4
      go_wp2_with fail
      go_ret
      exact ⟨rfl, HB.out⟩
    · rw [if_neg hxy] at HOK
      have HA := hide (of_decide_eq_true (Bool.and_eq_true_iff.1 HOK.out).1)
      have e3 : (x == y) = false := by simp [hxy]
      clear HOK hxy HPQ
      have eT : ((((⟨#[66, 89, 77, 79, 78, 84, 72, 68, 65, 89, 61]⟩ : ByteArray) ++ str P) ++ (⟨#[44]⟩ : ByteArray)) ++ str Q) ++ (⟨#[59, 70, 82, 69, 81, 61, 77, 79, 78, 84, 72, 76, 89]⟩ : ByteArray) = str ((([66, 89, 77, 79, 78, 84, 72, 68, 65, 89, 61] ++ P) ++ [44]) ++ Q ++ [59, 70, 82, 69, 81, 61, 77, 79, 78, 84, 72, 76, 89]) := by rw [← str_app, ← str_app, ← str_app, ← str_app]; rfl
      have s1 : ((⟨#[66, 89, 77, 79, 78, 84, 72, 68, 65, 89, 61]⟩ : ByteArray) ++ str P).size ≤ 14 := by rw [ByteArray.size_append]; have : (⟨#[66, 89, 77, 79, 78, 84, 72, 68, 65, 89, 61]⟩ : ByteArray).size = 11 := rfl; omega
      have s2 : (((⟨#[66, 89, 77, 79, 78, 84, 72, 68, 65, 89, 61]⟩ : ByteArray) ++ str P) ++ (⟨#[44]⟩ : ByteArray)).size ≤ 15 := by rw [ByteArray.size_append]; have : (⟨#[44]⟩ : ByteArray).size = 1 := rfl; omega
      have s3 : ((((⟨#[66, 89, 77, 79, 78, 84, 72, 68, 65, 89, 61]⟩ : ByteArray) ++ str P) ++ (⟨#[44]⟩ : ByteArray)) ++ str Q).size ≤ 18 := by rw [ByteArray.size_append]; omega
      have hlen : (((([66, 89, 77, 79, 78, 84, 72, 68, 65, 89, 61] ++ P) ++ [44]) ++ Q ++ [59, 70, 82, 69, 81, 61, 77, 79, 78, 84, 72, 76, 89] : Tx)).length ≤ 100000 := by simp only [List.length_append, List.length_cons, List.length_nil]; omega
      have HT := hide eT
      have HLN := hide hlen
      clear eT hlen
      go_wp2_with fail
      rw [HT.out]
      clear s1 s2 s3
      refine (parse_some HA.out HLN.out _ (HE.out.keep HB.out)).mono ?_
      rintro e w4 ⟨hb4, D, dc, M, mc, Y, yc, rfl, hl⟩
      simp only [List.length_cons, List.length_nil]
      obtain ⟨Z, hZ⟩ : ∃ Z, w4.heap.size = Z := ⟨_, rfl⟩
      have q := box_cells w4 25 (.int .i64 3) (.int .i64 1) (.int .i64 0) (.int .i64 (-1)) (.slice D 0 dc) (.slice M 2 mc) (.slice Y 0 yc) hZ
      have HL : Hid (Lies (w4.alloc (.cells #[.int .i64 3, .int .i64 1, .int .i64 0, .int .i64 (-1), .slice D 0 dc, .slice M 2 mc, .slice Y 0 yc] 25)) D 0 M 2 Y 0 [] [x, y] []) := hide (hl.keep (more (start w4) (.cells #[.int .i64 3, .int .i64 1, .int .i64 0, .int .i64 (-1), .slice D 0 dc, .slice M 2 mc, .slice Y 0 yc] 25)))
      replace HB := hide (more (andthen HB.out hb4) (.cells #[.int .i64 3, .int .i64 1, .int .i64 0, .int .i64 (-1), .slice D 0 dc, .slice M 2 mc, .slice Y 0 yc] 25))
      clear hb4 hl
      go_upto_region 12 with fail
      generalize w4.alloc (.cells #[.int .i64 3, .int .i64 1, .int .i64 0, .int .i64 (-1), .slice D 0 dc, .slice M 2 mc, .slice Y 0 yc] 25) = w5 at *
      have hb6 := more (more (start w5) (.cells #[.int .i64 x, .int .i64 y] 3)) (.cells #[.int .i64 3, .int .i64 1, .int .i64 0, .int .i64 (-1), .slice none 0 0, .slice (some ⟨w5.heap.size, 0, none⟩) 2 2, .slice none 0 0] 25)
      obtain ⟨q0, q1, q2, q3, q4, q5, q6⟩ := q
      have x0 := cell_keep hb6 q0
      have x1 := cell_keep hb6 q1
      have x2 := cell_keep hb6 q2
      have x3 := cell_keep hb6 q3
      have x4 := cell_keep hb6 q4
      have x5 := cell_keep hb6 q5
      have x6 := cell_keep hb6 q6
      have HL1 := hide (HL.out.keep hb6)
      have HL2 := hide (two_lies w5 x y 3 (.cells #[.int .i64 3, .int .i64 1, .int .i64 0, .int .i64 (-1), .slice none 0 0, .slice (some ⟨w5.heap.size, 0, none⟩) 2 2, .slice none 0 0] 25))
      have HS := hide (fun h1 h2 => R.same_any 3 1 0 (-1) D M Y 0 dc 2 mc 0 yc 3 1 0 (-1) none (some ⟨w5.heap.size, 0, none⟩) none 0 0 2 2 0 0 [] [x, y] [] [] [x, y] [] ((w5.alloc (.cells #[.int .i64 x, .int .i64 y] 3)).alloc (.cells #[.int .i64 3, .int .i64 1, .int .i64 0, .int .i64 (-1), .slice none 0 0, .slice (some ⟨w5.heap.size, 0, none⟩) 2 2, .slice none 0 0] 25)) h1 h2)
      have hs : sameB ⟨3, 1, 0, -1, [], [x, y], []⟩ ⟨3, 1, 0, -1, [], [x, y], []⟩ = true := (sameB_iff _ _).2 rfl
      rw [hs] at HS
      replace HB := hide (andthen HB.out hb6)
      clear hb6 q0 q1 q2 q3 q4 q5 q6 hs HL
      go_wp2_with fail
      refine (HS.out HL1.out HL2.out).mono ?_
      rintro e w7 ⟨rfl, hb7⟩
      replace HB := hide (andthen HB.out hb7)
      clear hb7
      go_wp2_with fail
      go_ret
      exact ⟨rfl, HB.out⟩
  · by_cases hxy : x = y
    · rw [if_pos hxy] at HOK
      have HA := hide (of_decide_eq_true HOK.out)
      have hPQ := HPQ.out hxy
      subst hPQ
      have e3 : (x == y) = true := by simp [hxy]
      clear HOK hxy HPQ
      have eT : ((((⟨#[66, 89, 77, 79, 78, 84, 72, 68, 65, 89, 61]⟩ : ByteArray) ++ str P) ++ (⟨#[44]⟩ : ByteArray)) ++ str P) ++ (⟨#[59, 70, 82, 69, 81, 61, 77, 79, 78, 84, 72, 76, 89]⟩ : ByteArray) = str ((([66, 89, 77, 79, 78, 84, 72, 68, 65, 89, 61] ++ P) ++ [44]) ++ P ++ [59, 70, 82, 69, 81, 61, 77, 79, 78, 84, 72, 76, 89]) := by rw [← str_app, ← str_app, ← str_app, ← str_app]; rfl
      have s1 : ((⟨#[66, 89, 77, 79, 78, 84, 72, 68, 65, 89, 61]⟩ : ByteArray) ++ str P).size ≤ 14 := by rw [ByteArray.size_append]; have : (⟨#[66, 89, 77, 79, 78, 84, 72, 68, 65, 89, 61]⟩ : ByteArray).size = 11 := rfl; omega
      have s2 : (((⟨#[66, 89, 77, 79, 78, 84, 72, 68, 65, 89, 61]⟩ : ByteArray) ++ str P) ++ (⟨#[44]⟩ : ByteArray)).size ≤ 15 := by rw [ByteArray.size_append]; have : (⟨#[44]⟩ : ByteArray).size = 1 := rfl; omega
      have s3 : ((((⟨#[66, 89, 77, 79, 78, 84, 72, 68, 65, 89, 61]⟩ : ByteArray) ++ str P) ++ (⟨#[44]⟩ : ByteArray)) ++ str P).size ≤ 18 := by rw [ByteArray.size_append]; omega
      have hlen : (((([66, 89, 77, 79, 78, 84, 72, 68, 65, 89, 61] ++ P) ++ [44]) ++ P ++ [59, 70, 82, 69, 81, 61, 77, 79, 78, 84, 72, 76, 89] : Tx)).length ≤ 100000 := by simp only [List.length_append, List.length_cons, List.length_nil]; omega
      have HT := hide eT
      have HLN := hide hlen
      clear eT hlen
      go_wp2_with fail
      rw [HT.out]
      clear s1 s2 s3
      refine (parse_none HA.out HLN.out _ (HE.out.keep HB.out)).mono ?_
      rintro e w4 ⟨rfl, hb4⟩
      unfold noRule
      replace HB := hide (more (andthen HB.out hb4) (.cells #[.int .i64 0, .int .i64 0, .int .i64 0, .int .i64 0, .slice none 0 0, .slice none 0 0, .slice none 0 0] 25))
      clear hb4
      go_wp2_with fail
      go_ret
      exact ⟨rfl, HB.out⟩
    · rw [if_neg hxy] at HOK
      have HA := hide (of_decide_eq_true (Bool.and_eq_true_iff.1 HOK.out).2)
      have e3 : (x == y) = false := by simp [hxy]
      clear HOK hxy HPQ
      have eT : ((((⟨#[66, 89, 77, 79, 78, 84, 72, 68, 65, 89, 61]⟩ : ByteArray) ++ str Q) ++ (⟨#[44]⟩ : ByteArray)) ++ str P) ++ (⟨#[59, 70, 82, 69, 81, 61, 77, 79, 78, 84, 72, 76, 89]⟩ : ByteArray) = str ((([66, 89, 77, 79, 78, 84, 72, 68, 65, 89, 61] ++ Q) ++ [44]) ++ P ++ [59, 70, 82, 69, 81, 61, 77, 79, 78, 84, 72, 76, 89]) := by rw [← str_app, ← str_app, ← str_app, ← str_app]; rfl
      have s1 : ((⟨#[66, 89, 77, 79, 78, 84, 72, 68, 65, 89, 61]⟩ : ByteArray) ++ str Q).size ≤ 14 := by rw [ByteArray.size_append]; have : (⟨#[66, 89, 77, 79, 78, 84, 72, 68, 65, 89, 61]⟩ : ByteArray).size = 11 := rfl; omega
      have s2 : (((⟨#[66, 89, 77, 79, 78, 84, 72, 68, 65, 89, 61]⟩ : ByteArray) ++ str Q) ++ (⟨#[44]⟩ : ByteArray)).size ≤ 15 := by rw [ByteArray.size_append]; have : (⟨#[44]⟩ : ByteArray).size = 1 := rfl; omega
      have s3 : ((((⟨#[66, 89, 77, 79, 78, 84, 72, 68, 65, 89, 61]⟩ : ByteArray) ++ str Q) ++ (⟨#[44]⟩ : ByteArray)) ++ str P).size ≤ 18 := by rw [ByteArray.size_append]; omega
      have hlen : (((([66, 89, 77, 79, 78, 84, 72, 68, 65, 89, 61] ++ Q) ++ [44]) ++ P ++ [59, 70, 82, 69, 81, 61, 77, 79, 78, 84, 72, 76, 89] : Tx)).length ≤ 100000 := by simp only [List.length_append, List.length_cons, List.length_nil]; omega
      have HT := hide eT
      have HLN := hide hlen
      clear eT hlen
      go_wp2_with fail
      rw [HT.out]
      clear s1 s2 s3
      refine (parse_some HA.out HLN.out _ (HE.out.keep HB.out)).mono ?_
      rintro e w4 ⟨hb4, D, dc, M, mc, Y, yc, rfl, hl⟩
      simp only [List.length_cons, List.length_nil]
      obtain ⟨Z, hZ⟩ : ∃ Z, w4.heap.size = Z := ⟨_, rfl⟩
      have q := box_cells w4 25 (.int .i64 3) (.int .i64 1) (.int .i64 0) (.int .i64 (-1)) (.slice D 0 dc) (.slice M 2 mc) (.slice Y 0 yc) hZ
      have HL : Hid (Lies (w4.alloc (.cells #[.int .i64 3, .int .i64 1, .int .i64 0, .int .i64 (-1), .slice D 0 dc, .slice M 2 mc, .slice Y 0 yc] 25)) D 0 M 2 Y 0 [] [x, y] []) := hide (hl.keep (more (start w4) (.cells #[.int .i64 3, .int .i64 1, .int .i64 0, .int .i64 (-1), .slice D 0 dc, .slice M 2 mc, .slice Y 0 yc] 25)))
      replace HB := hide (more (andthen HB.out hb4) (.cells #[.int .i64 3, .int .i64 1, .int .i64 0, .int .i64 (-1), .slice D 0 dc, .slice M 2 mc, .slice Y 0 yc] 25))
      clear hb4 hl
      go_upto_region 12 with fail
      generalize w4.alloc (.cells #[.int .i64 3, .int .i64 1, .int .i64 0, .int .i64 (-1), .slice D 0 dc, .slice M 2 mc, .slice Y 0 yc] 25) = w5 at *
      have hb6 := more (more (start w5) (.cells #[.int .i64 x, .int .i64 y] 3)) (.cells #[.int .i64 3, .int .i64 1, .int .i64 0, .int .i64 (-1), .slice none 0 0, .slice (some ⟨w5.heap.size, 0, none⟩) 2 2, .slice none 0 0] 25)
      obtain ⟨q0, q1, q2, q3, q4, q5, q6⟩ := q
      have x0 := cell_keep hb6 q0
      have x1 := cell_keep hb6 q1
      have x2 := cell_keep hb6 q2
      have x3 := cell_keep hb6 q3
      have x4 := cell_keep hb6 q4
      have x5 := cell_keep hb6 q5
      have x6 := cell_keep hb6 q6
      have HL1 := hide (HL.out.keep hb6)
      have HL2 := hide (two_lies w5 x y 3 (.cells #[.int .i64 3, .int .i64 1, .int .i64 0, .int .i64 (-1), .slice none 0 0, .slice (some ⟨w5.heap.size, 0, none⟩) 2 2, .slice none 0 0] 25))
      have HS := hide (fun h1 h2 => R.same_any 3 1 0 (-1) D M Y 0 dc 2 mc 0 yc 3 1 0 (-1) none (some ⟨w5.heap.size, 0, none⟩) none 0 0 2 2 0 0 [] [x, y] [] [] [x, y] [] ((w5.alloc (.cells #[.int .i64 x, .int .i64 y] 3)).alloc (.cells #[.int .i64 3, .int .i64 1, .int .i64 0, .int .i64 (-1), .slice none 0 0, .slice (some ⟨w5.heap.size, 0, none⟩) 2 2, .slice none 0 0] 25)) h1 h2)
      have hs : sameB ⟨3, 1, 0, -1, [], [x, y], []⟩ ⟨3, 1, 0, -1, [], [x, y], []⟩ = true := (sameB_iff _ _).2 rfl
      rw [hs] at HS
      replace HB := hide (andthen HB.out hb6)
      clear hb6 q0 q1 q2 q3 q4 q5 q6 hs HL
      go_wp2_with fail
      refine (HS.out HL1.out HL2.out).mono ?_
      rintro e w7 ⟨rfl, hb7⟩
      replace HB := hide (andthen HB.out hb7)
      clear hb7
      go_wp2_with fail
      go_ret
      exact ⟨rfl, HB.out⟩

end Go.Proofs.YtffobailjdhijaaGreatDoor

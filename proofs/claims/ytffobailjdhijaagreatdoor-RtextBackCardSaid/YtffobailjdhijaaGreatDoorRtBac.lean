/- RtextBack walked. -/
import Derived.Test.YtffobailjdhijaaGreatDoorRtBacF
import Derived.Test.YtffobailjdhijaaGreatDoorRtN
import Derived.Test.YtffobailjdhijaaGreatDoorRuU
import Derived.Deep.Cut
namespace Go.Proofs.YtffobailjdhijaaGreatDoor
open Go.RowKit Rul Rt Go.Sort

/-- the lists of a rule in memory, however long. -/
abbrev LaysR (w : World) (D : Option Addr) (dn : Nat) (M : Option Addr) (mn : Nat) (Y : Option Addr) (yn : Nat) (ds : List Wd) (ms ys : List Int) : Prop :=
  (dn = ds.length ∧ ds.length ≤ maxLen ∧ RowD w D ds) ∧ (mn = ms.length ∧ ms.length ≤ maxLen ∧ RowI w M ms) ∧ (yn = ys.length ∧ ys.length ≤ maxLen ∧ RowI w Y ys)
theorem laysR_lies {w : World} {D M Y : Option Addr} {dn mn yn : Nat} {ds : List Wd} {ms ys : List Int} (h : LaysR w D dn M mn Y yn ds ms ys) (k : (decide (dn ≤ 20) && decide (mn ≤ 20) && decide (yn ≤ 20)) = true) : Lies w D dn M mn Y yn ds ms ys := by
  simp only [Bool.and_eq_true, decide_eq_true_eq] at k
  obtain ⟨⟨a1, _, a3⟩, ⟨b1, _, b3⟩, ⟨c1, _, c3⟩⟩ := h
  exact ⟨a3, a1, by omega, b3, b1, by omega, c3, c1, by omega⟩
set_option linter.unusedVariables false in
set_option maxRecDepth 100000 in
set_option maxHeartbeats 4000000 in
theorem back_few (fr ev ct un : Int) (D M Y : Option Addr) (dn dc mn mc yn yc : Nat) (ds : List Wd) (ms ys : List Int) (x y : Int) (w : World) (he : Env w) (hf : (decide (dn ≤ 20) && decide (mn ≤ 20) && decide (yn ≤ 20)) = false) :
    Calls Tryz.prog 4 #[.agg #[.int .i64 fr, .int .i64 ev, .int .i64 ct, .int .i64 un, .slice D dn dc, .slice M mn mc, .slice Y yn yc], .int .u8 x, .int .u8 y] w (Ans w (.bool true)) := by
  have HE := hide he
  clear he
  have q := box_cells w 25 (.int .i64 fr) (.int .i64 ev) (.int .i64 ct) (.int .i64 un) (.slice D dn dc) (.slice M mn mc) (.slice Y yn yc) rfl
  have HB := hide (more (start w) (.cells #[.int .i64 fr, .int .i64 ev, .int .i64 ct, .int .i64 un, .slice D dn dc, .slice M mn mc, .slice Y yn yc] 25))
  obtain ⟨q0, q1, q2, q3, q4, q5, q6⟩ := q
  go_enter Tryz.func4, Tryz.ntmps4
  go_wp2_with fail
  refine (known_any _ (HE.out.keep HB.out)).mono ?_
  rintro e w1 ⟨rfl, hb1⟩
  replace HB := hide (andthen HB.out hb1)
  replace q0 := cell_keep hb1 q0
  replace q1 := cell_keep hb1 q1
  replace q2 := cell_keep hb1 q2
  replace q3 := cell_keep hb1 q3
  replace q4 := cell_keep hb1 q4
  replace q5 := cell_keep hb1 q5
  replace q6 := cell_keep hb1 q6
  clear hb1
  go_wp2_with fail
  refine (few_any fr ev ct un D M Y dn dc mn mc yn yc _).mono ?_
  rintro e w2 ⟨rfl, hb2⟩
  replace HB := hide (andthen HB.out hb2)
  replace q0 := cell_keep hb2 q0
  replace q1 := cell_keep hb2 q1
  replace q2 := cell_keep hb2 q2
  replace q3 := cell_keep hb2 q3
  replace q4 := cell_keep hb2 q4
  replace q5 := cell_keep hb2 q5
  replace q6 := cell_keep hb2 q6
  rw [hf]
  clear hb2
  go_wp2_with fail
  go_ret
  exact ⟨rfl, HB.out⟩
set_option linter.unusedVariables false in
set_option maxRecDepth 100000 in
set_option maxHeartbeats 4000000 in
theorem back_isnt (fr ev ct un : Int) (D M Y : Option Addr) (dn dc mn mc yn yc : Nat) (ds : List Wd) (ms ys : List Int) (x y : Int) (w : World) (he : Env w) (hl : Lies w D dn M mn Y yn ds ms ys) (hf : (decide (dn ≤ 20) && decide (mn ≤ 20) && decide (yn ≤ 20)) = true) (hi : isB ⟨fr, ev, ct, un, ds, ms, ys⟩ = false ∨ fr = 0) :
    Calls Tryz.prog 4 #[.agg #[.int .i64 fr, .int .i64 ev, .int .i64 ct, .int .i64 un, .slice D dn dc, .slice M mn mc, .slice Y yn yc], .int .u8 x, .int .u8 y] w (Ans w (.bool true)) := by
  have HL := hide hl
  have HI := hide (fun w h => R.is_any fr ev ct un D M Y dn dc mn mc yn yc ds ms ys w h)
  obtain ⟨B, hB⟩ : ∃ B, isB ⟨fr, ev, ct, un, ds, ms, ys⟩ = B := ⟨_, rfl⟩
  rw [hB] at HI hi
  clear hl hB
  have HE := hide he
  clear he
  have q := box_cells w 25 (.int .i64 fr) (.int .i64 ev) (.int .i64 ct) (.int .i64 un) (.slice D dn dc) (.slice M mn mc) (.slice Y yn yc) rfl
  have HB := hide (more (start w) (.cells #[.int .i64 fr, .int .i64 ev, .int .i64 ct, .int .i64 un, .slice D dn dc, .slice M mn mc, .slice Y yn yc] 25))
  obtain ⟨q0, q1, q2, q3, q4, q5, q6⟩ := q
  go_enter Tryz.func4, Tryz.ntmps4
  go_wp2_with fail
  refine (known_any _ (HE.out.keep HB.out)).mono ?_
  rintro e w1 ⟨rfl, hb1⟩
  replace HB := hide (andthen HB.out hb1)
  replace q0 := cell_keep hb1 q0
  replace q1 := cell_keep hb1 q1
  replace q2 := cell_keep hb1 q2
  replace q3 := cell_keep hb1 q3
  replace q4 := cell_keep hb1 q4
  replace q5 := cell_keep hb1 q5
  replace q6 := cell_keep hb1 q6
  clear hb1
  go_wp2_with fail
  refine (few_any fr ev ct un D M Y dn dc mn mc yn yc _).mono ?_
  rintro e w2 ⟨rfl, hb2⟩
  replace HB := hide (andthen HB.out hb2)
  replace q0 := cell_keep hb2 q0
  replace q1 := cell_keep hb2 q1
  replace q2 := cell_keep hb2 q2
  replace q3 := cell_keep hb2 q3
  replace q4 := cell_keep hb2 q4
  replace q5 := cell_keep hb2 q5
  replace q6 := cell_keep hb2 q6
  rw [hf]
  replace HL := hide (HL.out.keep HB.out)
  clear hb2
  cases B
  · go_wp2_with fail
    refine (HI.out _ HL.out).mono ?_
    rintro e w3 ⟨rfl, hb3⟩
    replace HB := hide (andthen HB.out hb3)
    clear hb3 q0 q1 q2 q3 q4 q5 q6
    go_wp2_with fail
    go_ret
    exact ⟨rfl, HB.out⟩
  · obtain rfl : fr = 0 := by rcases hi with h | h; cases h; exact h
    go_wp2_with fail
    refine (HI.out _ HL.out).mono ?_
    rintro e w3 ⟨rfl, hb3⟩
    replace HB := hide (andthen HB.out hb3)
    replace q0 := cell_keep hb3 q0
    clear hb3 q1 q2 q3 q4 q5 q6
    go_wp2_with fail
    go_ret
    exact ⟨rfl, HB.out⟩
set_option linter.unusedVariables false in
set_option maxRecDepth 100000 in
set_option maxHeartbeats 8000000 in
theorem back_main (fr ev ct un : Int) (D M Y : Option Addr) (dn dc mn mc yn yc : Nat) (ds : List Wd) (ms ys : List Int) (x y : Int) (w : World) (he : Env w) (hl : Lies w D dn M mn Y yn ds ms ys) (hf : (decide (dn ≤ 20) && decide (mn ≤ 20) && decide (yn ≤ 20)) = true) (hi : isB ⟨fr, ev, ct, un, ds, ms, ys⟩ = true) (h0 : fr ≠ 0) (x1 : 0 ≤ x) (x2 : x ≤ 255) (y1 : 0 ≤ y) (y2 : y ≤ 255) :
    Calls Tryz.prog 4 #[.agg #[.int .i64 fr, .int .i64 ev, .int .i64 ct, .int .i64 un, .slice D dn dc, .slice M mn mc, .slice Y yn yc], .int .u8 x, .int .u8 y] w (Ans w (.bool true)) := by
  obtain ⟨ws, hbk⟩ := backs_of ⟨fr, ev, ct, un, ds, ms, ys⟩ hi h0
  have HL := hide hl
  have HI := hide (fun w h => R.is_any fr ev ct un D M Y dn dc mn mc yn yc ds ms ys w h)
  have HP := hide (fun w hl ht => Print_any fr ev ct un D M Y dn dc mn mc yn yc ds ms ys w hl ht)
  rw [hi] at HI
  have hSl : (printE unU ⟨fr, ev, ct, un, ds, ms, ys⟩).length ≤ 7007 := by
    rw [hbk.text]
    have h1 := join_len 59 1000 ws hbk.len
    have h2 : ws.length * (1000 + 1) ≤ 7 * (1000 + 1) := Nat.mul_le_mul_right _ hbk.le
    omega
  have HBK := hide hbk
  have hcut := hbk.cut
  have hback := hbk.back
  have htext := hbk.text
  obtain ⟨S, hS⟩ : ∃ S, printE unU ⟨fr, ev, ct, un, ds, ms, ys⟩ = S := ⟨_, rfl⟩
  rw [hS] at HP hSl hcut hback htext
  have HPA := hide (fun w he => parse_some hback (by omega) w he)
  have HCU := hide (fun w => rCut_any (str S) 59 59 w rfl (by rw [str_size]; omega))
  rw [str_list, hcut] at HCU
  have HTX := hide htext
  have HS0 := hide hS
  have h00 : (fr == 0) = false := by simp [h0]
  have hs : sameB ⟨fr, ev, ct, un, ds, ms, ys⟩ ⟨fr, ev, ct, un, ds, ms, ys⟩ = true := (sameB_iff _ _).2 rfl
  have HSA := hide (fun w D1 M1 Y1 dc1 mc1 yc1 h1 h2 => R.same_any fr ev ct un D1 M1 Y1 ds.length dc1 ms.length mc1 ys.length yc1 fr ev ct un D M Y dn dc mn mc yn yc ds ms ys ds ms ys w h1 h2)
  rw [hs] at HSA
  have HSL := hide hSl
  have HFI := hide (And.intro hi h0)
  clear hl hbk hi hS hcut hback htext hs hSl h0
  have HE := hide he
  clear he
  have q := box_cells w 25 (.int .i64 fr) (.int .i64 ev) (.int .i64 ct) (.int .i64 un) (.slice D dn dc) (.slice M mn mc) (.slice Y yn yc) rfl
  have HB := hide (more (start w) (.cells #[.int .i64 fr, .int .i64 ev, .int .i64 ct, .int .i64 un, .slice D dn dc, .slice M mn mc, .slice Y yn yc] 25))
  obtain ⟨q0, q1, q2, q3, q4, q5, q6⟩ := q
  go_enter Tryz.func4, Tryz.ntmps4
  go_wp2_with fail
  refine (known_any _ (HE.out.keep HB.out)).mono ?_
  rintro e w1 ⟨rfl, hb1⟩
  replace HB := hide (andthen HB.out hb1)
  replace q0 := cell_keep hb1 q0
  replace q1 := cell_keep hb1 q1
  replace q2 := cell_keep hb1 q2
  replace q3 := cell_keep hb1 q3
  replace q4 := cell_keep hb1 q4
  replace q5 := cell_keep hb1 q5
  replace q6 := cell_keep hb1 q6
  clear hb1
  go_wp2_with fail
  refine (few_any fr ev ct un D M Y dn dc mn mc yn yc _).mono ?_
  rintro e w2 ⟨rfl, hb2⟩
  replace HB := hide (andthen HB.out hb2)
  replace q0 := cell_keep hb2 q0
  replace q1 := cell_keep hb2 q1
  replace q2 := cell_keep hb2 q2
  replace q3 := cell_keep hb2 q3
  replace q4 := cell_keep hb2 q4
  replace q5 := cell_keep hb2 q5
  replace q6 := cell_keep hb2 q6
  rw [hf]
  replace HL := hide (HL.out.keep HB.out)
  clear hb2
  go_wp2_with fail
  refine (HI.out _ HL.out).mono ?_
  rintro e w3 ⟨rfl, hb3⟩
  replace HB := hide (andthen HB.out hb3)
  replace HL := hide (HL.out.keep hb3)
  replace q0 := cell_keep hb3 q0
  replace q1 := cell_keep hb3 q1
  replace q2 := cell_keep hb3 q2
  replace q3 := cell_keep hb3 q3
  replace q4 := cell_keep hb3 q4
  replace q5 := cell_keep hb3 q5
  replace q6 := cell_keep hb3 q6
  clear hb3
  go_wp2_with fail
  refine (HP.out _ HL.out (HE.out.keep HB.out).tab).mono ?_
  rintro e w4 ⟨rfl, hb4⟩
  replace HB := hide (andthen HB.out hb4)
  replace HL := hide (HL.out.keep hb4)
  replace q0 := cell_keep hb4 q0
  replace q1 := cell_keep hb4 q1
  replace q2 := cell_keep hb4 q2
  replace q3 := cell_keep hb4 q3
  replace q4 := cell_keep hb4 q4
  replace q5 := cell_keep hb4 q5
  replace q6 := cell_keep hb4 q6
  clear hb4
  go_wp2_with fail
  refine (HPA.out _ (HE.out.keep HB.out)).mono ?_
  rintro e w5 ⟨hb5, D1, dc1, M1, mc1, Y1, yc1, rfl, hl1⟩
  simp only at hl1 ⊢
  have hb5b := more hb5 (.cells #[.int .i64 fr, .int .i64 ev, .int .i64 ct, .int .i64 un, .slice D1 ds.length dc1, .slice M1 ms.length mc1, .slice Y1 ys.length yc1] 25)
  replace HB := hide (andthen HB.out hb5b)
  replace HL := hide (HL.out.keep hb5b)
  have HL1 := hide (hl1.keep (more (start w5) (.cells #[.int .i64 fr, .int .i64 ev, .int .i64 ct, .int .i64 un, .slice D1 ds.length dc1, .slice M1 ms.length mc1, .slice Y1 ys.length yc1] 25)))
  replace q0 := cell_keep hb5b q0
  replace q1 := cell_keep hb5b q1
  replace q2 := cell_keep hb5b q2
  replace q3 := cell_keep hb5b q3
  replace q4 := cell_keep hb5b q4
  replace q5 := cell_keep hb5b q5
  replace q6 := cell_keep hb5b q6
  obtain ⟨Z, hZ⟩ : ∃ Z, w5.heap.size = Z := ⟨_, rfl⟩
  obtain ⟨z0, z1, z2, z3, z4, z5, z6⟩ := box_cells w5 25 (.int .i64 fr) (.int .i64 ev) (.int .i64 ct) (.int .i64 un) (.slice D1 ds.length dc1) (.slice M1 ms.length mc1) (.slice Y1 ys.length yc1) hZ
  clear hb5 hb5b hl1
  go_upto_region 7 with fail
  generalize w5.alloc (.cells #[.int .i64 fr, .int .i64 ev, .int .i64 ct, .int .i64 un, .slice D1 ds.length dc1, .slice M1 ms.length mc1, .slice Y1 ys.length yc1] 25) = w6 at *
  go_wp2_with fail
  refine (HSA.out _ _ _ _ _ _ _ HL1.out HL.out).mono ?_
  rintro e w7 ⟨rfl, hb7⟩
  replace HB := hide (andthen HB.out hb7)
  replace HL := hide (HL.out.keep hb7)
  replace q0 := cell_keep hb7 q0
  replace q1 := cell_keep hb7 q1
  replace q2 := cell_keep hb7 q2
  replace q3 := cell_keep hb7 q3
  replace q4 := cell_keep hb7 q4
  replace q5 := cell_keep hb7 q5
  replace q6 := cell_keep hb7 q6
  clear hb7 z0 z1 z2 z3 z4 z5 z6 hZ HL1
  go_wp2_with fail
  refine (HCU.out _).mono ?_
  rintro e w8 ⟨v, rfl, hown, hb8⟩
  replace HB := hide (andthen HB.out hb8)
  replace HL := hide (HL.out.keep hb8)
  replace q0 := cell_keep hb8 q0
  replace q1 := cell_keep hb8 q1
  replace q2 := cell_keep hb8 q2
  replace q3 := cell_keep hb8 q3
  replace q4 := cell_keep hb8 q4
  replace q5 := cell_keep hb8 q5
  replace q6 := cell_keep hb8 q6
  obtain ⟨A8, cap8, rfl, hrow8, _⟩ := OwnS.row hown
  have HR8 := hide hrow8
  have hpos := HBK.out.pos
  have hle := HBK.out.le
  clear hb8 hown hrow8
  obtain ⟨K, hK, hKn⟩ : ∃ K : Nat, x % (ws.length : Int) = (K : Int) ∧ K < ws.length := ⟨(x % (ws.length : Int)).toNat, by
    have := Int.emod_nonneg x (show (ws.length : Int) ≠ 0 by omega)
    omega, by
    have h1 := Int.emod_nonneg x (show (ws.length : Int) ≠ 0 by omega)
    have h2 := Int.emod_lt_of_pos x (show (0 : Int) < ws.length by omega)
    omega⟩
  go_upto_region 11 with fail
  rw [hK]
  clear hK
  have HLE := hide HBK.out.len
  have hJl : ∀ j, (joinAt 59 ((Rt.rot K ws).take j)).length ≤ 7007 := fun j => by
    have h1 := join_len 59 1000 ((Rt.rot K ws).take j) (fun p hp => HBK.out.len p ((rot_perm K ws).mem_iff.1 (List.mem_of_mem_take hp)))
    have h2 : ((Rt.rot K ws).take j).length ≤ 7 := by rw [List.length_take, rot_len]; omega
    have h3 := Nat.mul_le_mul_right (1000 + 1) h2
    omega
  have HJL := hide hJl
  clear hJl
  have c8 := HE.out.keep HB.out
  have HE8 := hide c8
  clear c8 hf
  go_upto_region 13 with fail
  go_loopw [12, 13] (fun v i wr => ∃ j : Nat, j ≤ ws.length ∧ i = .int .i64 j ∧ v = .string (str (joinAt 59 ((Rt.rot K ws).take j))) ∧ wr = w8) (fun _ i _ => ws.length - (intOf i).toNat)
  case atStart => exact ⟨0, Nat.zero_le _, rfl, rfl, rfl⟩
  case round =>
    obtain ⟨j, hj, rfl, rfl, rfl⟩ := hrel
    by_cases hlt : j < ws.length
    · obtain ⟨b8, o8, rfl, hb8, hc8⟩ := HR8.out (by intro h0; rw [h0] at hlt; exact absurd hlt (Nat.not_lt_zero _))
      obtain ⟨I, hI, hI2⟩ : ∃ I : Nat, (j + K) % ws.length = I ∧ I < ws.length := ⟨_, rfl, Nat.mod_lt _ (by omega)⟩
      have hst := join_step 59 (Rt.rot K ws) j (by rw [rot_len]; exact hlt)
      rw [rot_get K j ws hKn hlt] at hst
      have p8 := hc8 ((j + K) % ws.length) (Nat.mod_lt _ (by omega))
      have hel := HLE.out _ (List.getElem_mem (Nat.mod_lt (j + K) (show 0 < ws.length by omega)))
      generalize ws[(j + K) % ws.length]'_ = E at *
      rw [hI] at p8
      have hIm : ((j : Int) + (K : Int)).tmod (ws.length : Int) = (I : Int) := by
        rw [Int.tmod_eq_emod_of_nonneg (by omega), ← hI]; push_cast; rfl
      have hIe : ((j : Int) + (K : Int)) % (ws.length : Int) = (I : Int) := by rw [← hI]; push_cast; rfl
      have hl0 := HJL.out j
      have hEs : (str E).size ≤ 1000 := by rw [str_size]; exact hel
      have HST := hide hst
      clear hc8 hst hel hI
      obtain ⟨T, hT⟩ : ∃ T, joinAt 59 ((Rt.rot K ws).take j) = T := ⟨_, rfl⟩
      rw [hT] at hl0 HST
      rw [hT]
      have hTs : (str T).size ≤ 7007 := by rw [str_size]; exact hl0
      have hi0 : (0 : Int) ≤ (I : Int) := by omega
      have hi1 : (I : Int) < (ws.length : Int) := by omega
      have jn : (j : Int) < (ws.length : Int) := by omega
      by_cases hz : j = 0
      · have HN : Hid (joinAt 59 ((Rt.rot K ws).take (j + 1)) = T ++ E) := hide (by rw [HST.out, if_pos hz, ← hT, hz]; rfl)
        have g0 : decide (0 < (j : Int)) = false := decide_eq_false (by omega)
        have g1 : decide (0 < j) = false := decide_eq_false (by omega)
        clear HST hT hz
        go_wp2_with fail
        go_roundw
        case rel => exact ⟨j + 1, by omega, by go_num, by rw [HN.out, ← str_app], trivial⟩
        case measure => simp [intOf]; omega
      · have HN : Hid (joinAt 59 ((Rt.rot K ws).take (j + 1)) = (T ++ [59]) ++ E) := hide (by rw [HST.out, if_neg hz])
        have g0 : decide (0 < (j : Int)) = true := decide_eq_true (by omega)
        have eT : str T ++ (⟨#[59]⟩ : ByteArray) = str (T ++ [59]) := by rw [← str_app]; rfl
        have hT2 : (str (T ++ [59])).size ≤ 7008 := by rw [str_size, List.length_append]; simp only [List.length_cons, List.length_nil]; omega
        have HET := hide eT
        clear HST hT eT
        go_upto_region 17 with fail
        rw [HET.out]
        generalize T ++ [59] = T2 at *
        go_wp2_with fail
        go_roundw
        case rel => exact ⟨j + 1, by omega, by go_num, by rw [HN.out, ← str_app], trivial⟩
        case measure => simp [intOf]; omega
    · obtain rfl : j = ws.length := by omega
      rw [List.take_of_length_le (by rw [rot_len]; exact Nat.le_refl _)]
      have hTl := HJL.out ws.length
      rw [List.take_of_length_le (by rw [rot_len]; exact Nat.le_refl _)] at hTl
      have hsome := HBK.out.turn K
      have htw := HBK.out.twice K
      have hem := empty_none unU (joinAt 59 (Rt.rot K ws))
      obtain ⟨T, hT⟩ : ∃ T, joinAt 59 (Rt.rot K ws) = T := ⟨_, rfl⟩
      rw [hT] at hTl hsome htw hem
      rw [hT]
      have HS1 := hide (fun w he => parse_some hsome (by omega) w he)
      have HEM := hide (fun w he => parse_none hem (by rw [List.length_append]; simp only [List.length_cons, List.length_nil]; omega) w he)
      have HTW := hide htw
      have hTs : (str T).size ≤ 7007 := by rw [str_size]; exact hTl
      clear hT hsome htw hem
      go_wp2_with fail
      refine (HS1.out _ HE8.out).mono ?_
      rintro e w9 ⟨hb9, D2, dc2, M2, mc2, Y2, yc2, rfl, hl2⟩
      simp only at hl2 ⊢
      have hb9b := more hb9 (.cells #[.int .i64 fr, .int .i64 ev, .int .i64 ct, .int .i64 un, .slice D2 ds.length dc2, .slice M2 ms.length mc2, .slice Y2 ys.length yc2] 25)
      replace HB := hide (andthen HB.out hb9b)
      replace HL := hide (HL.out.keep hb9b)
      have HL2 := hide (hl2.keep (more (start w9) (.cells #[.int .i64 fr, .int .i64 ev, .int .i64 ct, .int .i64 un, .slice D2 ds.length dc2, .slice M2 ms.length mc2, .slice Y2 ys.length yc2] 25)))
      have HR9 := hide (HR8.out.keep hb9b)
      replace HE8 := hide (HE8.out.keep hb9b)
      replace q0 := cell_keep hb9b q0
      replace q1 := cell_keep hb9b q1
      replace q2 := cell_keep hb9b q2
      replace q3 := cell_keep hb9b q3
      replace q4 := cell_keep hb9b q4
      replace q5 := cell_keep hb9b q5
      replace q6 := cell_keep hb9b q6
      obtain ⟨Z2, hZ2⟩ : ∃ Z2, w9.heap.size = Z2 := ⟨_, rfl⟩
      obtain ⟨z0, z1, z2, z3, z4, z5, z6⟩ := box_cells w9 25 (.int .i64 fr) (.int .i64 ev) (.int .i64 ct) (.int .i64 un) (.slice D2 ds.length dc2) (.slice M2 ms.length mc2) (.slice Y2 ys.length yc2) hZ2
      clear hb9 hb9b hl2
      go_upto_region 19 with fail
      obtain ⟨J, hJ, hJn⟩ : ∃ J : Nat, y % (ws.length : Int) = (J : Int) ∧ J < ws.length := ⟨(y % (ws.length : Int)).toNat, by
        have := Int.emod_nonneg y (show (ws.length : Int) ≠ 0 by omega)
        omega, by
        have h1 := Int.emod_nonneg y (show (ws.length : Int) ≠ 0 by omega)
        have h2 := Int.emod_lt_of_pos y (show (0 : Int) < ws.length by omega)
        omega⟩
      have hJt : y.tmod (ws.length : Int) = (J : Int) := by rw [Int.tmod_eq_emod_of_nonneg y1]; exact hJ
      obtain ⟨b8, o8, rfl, hb8, hc8⟩ := HR9.out (by intro h0; rw [h0] at hJn; exact absurd hJn (Nat.not_lt_zero _))
      have p8 := hc8 J hJn
      have htw := HTW.out _ (List.getElem_mem hJn)
      have hel := HLE.out _ (List.getElem_mem hJn)
      generalize ws[J]'_ = E at *
      have hEs : (str E).size ≤ 1000 := by rw [str_size]; exact hel
      have hj0 : (0 : Int) ≤ (J : Int) := by omega
      have hj1 : (J : Int) < (ws.length : Int) := by omega
      have s1 : (str T ++ (⟨#[59]⟩ : ByteArray)).size ≤ 7008 := by rw [ByteArray.size_append]; have : (⟨#[59]⟩ : ByteArray).size = 1 := rfl; omega
      have eT : (str T ++ (⟨#[59]⟩ : ByteArray)) ++ str E = str (T ++ 59 :: E) := by rw [show T ++ 59 :: E = (T ++ [59]) ++ E by simp, ← str_app, ← str_app]; rfl
      have eS : str T ++ (⟨#[59]⟩ : ByteArray) = str (T ++ [59]) := by rw [← str_app]; rfl
      have HN2 := hide (fun w he => parse_none htw (by rw [List.length_append, List.length_cons]; omega) w he)
      have HE1 := hide eT
      have HE2 := hide eS
      clear eT eS htw hel hc8 hb8 hJ
      go_wp2_with fail
      rw [HE1.out]
      refine (HN2.out _ HE8.out).mono ?_
      rintro e w10 ⟨rfl, hb10⟩
      unfold noRule
      have hb10b := more hb10 (.cells #[.int .i64 0, .int .i64 0, .int .i64 0, .int .i64 0, .slice none 0 0, .slice none 0 0, .slice none 0 0] 25)
      replace HB := hide (andthen HB.out hb10b)
      replace HL := hide (HL.out.keep hb10b)
      replace HL2 := hide (HL2.out.keep hb10b)
      replace HE8 := hide (HE8.out.keep hb10b)
      replace z0 := cell_keep hb10b z0
      replace z1 := cell_keep hb10b z1
      replace z2 := cell_keep hb10b z2
      replace z3 := cell_keep hb10b z3
      replace z4 := cell_keep hb10b z4
      replace z5 := cell_keep hb10b z5
      replace z6 := cell_keep hb10b z6
      replace q0 := cell_keep hb10b q0
      replace q1 := cell_keep hb10b q1
      replace q2 := cell_keep hb10b q2
      replace q3 := cell_keep hb10b q3
      replace q4 := cell_keep hb10b q4
      replace q5 := cell_keep hb10b q5
      replace q6 := cell_keep hb10b q6
      clear hb10 hb10b p8
      go_wp2_with fail
      rw [HE2.out]
      refine (HEM.out _ HE8.out).mono ?_
      rintro e w11 ⟨rfl, hb11⟩
      unfold noRule
      have hb11b := more hb11 (.cells #[.int .i64 0, .int .i64 0, .int .i64 0, .int .i64 0, .slice none 0 0, .slice none 0 0, .slice none 0 0] 25)
      replace HB := hide (andthen HB.out hb11b)
      replace HL := hide (HL.out.keep hb11b)
      replace HL2 := hide (HL2.out.keep hb11b)
      replace HE8 := hide (HE8.out.keep hb11b)
      replace z0 := cell_keep hb11b z0
      replace z1 := cell_keep hb11b z1
      replace z2 := cell_keep hb11b z2
      replace z3 := cell_keep hb11b z3
      replace z4 := cell_keep hb11b z4
      replace z5 := cell_keep hb11b z5
      replace z6 := cell_keep hb11b z6
      replace q0 := cell_keep hb11b q0
      replace q1 := cell_keep hb11b q1
      replace q2 := cell_keep hb11b q2
      replace q3 := cell_keep hb11b q3
      replace q4 := cell_keep hb11b q4
      replace q5 := cell_keep hb11b q5
      replace q6 := cell_keep hb11b q6
      clear hb11 hb11b
      go_wp2_with fail
      refine (HSA.out _ _ _ _ _ _ _ HL2.out HL.out).mono ?_
      rintro e w12 ⟨rfl, hb12⟩
      replace HB := hide (andthen HB.out hb12)
      replace HL2 := hide (HL2.out.keep hb12)
      replace HE8 := hide (HE8.out.keep hb12)
      replace z0 := cell_keep hb12 z0
      replace z1 := cell_keep hb12 z1
      replace z2 := cell_keep hb12 z2
      replace z3 := cell_keep hb12 z3
      replace z4 := cell_keep hb12 z4
      replace z5 := cell_keep hb12 z5
      replace z6 := cell_keep hb12 z6
      replace q0 := cell_keep hb12 q0
      replace q1 := cell_keep hb12 q1
      replace q2 := cell_keep hb12 q2
      replace q3 := cell_keep hb12 q3
      replace q4 := cell_keep hb12 q4
      replace q5 := cell_keep hb12 q5
      replace q6 := cell_keep hb12 q6
      clear hb12
      have HPR := hide (fun w hl ht => Print_any fr ev ct un D2 M2 Y2 ds.length dc2 ms.length mc2 ys.length yc2 ds ms ys w hl ht)
      rw [HS0.out] at HPR
      go_wp2_with fail
      refine (HPR.out _ HL2.out HE8.out.tab).mono ?_
      rintro e w13 ⟨rfl, hb13⟩
      replace HB := hide (andthen HB.out hb13)
      clear hb13
      go_wp2_with fail
      go_ret
      exact ⟨rfl, HB.out⟩
theorem back_any (fr ev ct un : Int) (D M Y : Option Addr) (dn dc mn mc yn yc : Nat) (ds : List Wd) (ms ys : List Int) (x y : Int) (w : World) (he : Env w) (h : LaysR w D dn M mn Y yn ds ms ys) (x1 : 0 ≤ x) (x2 : x ≤ 255) (y1 : 0 ≤ y) (y2 : y ≤ 255) :
    Calls Tryz.prog 4 #[.agg #[.int .i64 fr, .int .i64 ev, .int .i64 ct, .int .i64 un, .slice D dn dc, .slice M mn mc, .slice Y yn yc], .int .u8 x, .int .u8 y] w (Ans w (.bool true)) := by
  cases hf : (decide (dn ≤ 20) && decide (mn ≤ 20) && decide (yn ≤ 20)) with
  | false => exact back_few fr ev ct un D M Y dn dc mn mc yn yc ds ms ys x y w he hf
  | true =>
    have hl := laysR_lies h hf
    cases hi : isB ⟨fr, ev, ct, un, ds, ms, ys⟩ with
    | false => exact back_isnt fr ev ct un D M Y dn dc mn mc yn yc ds ms ys x y w he hl hf (Or.inl hi)
    | true =>
      by_cases h0 : fr = 0
      · exact back_isnt fr ev ct un D M Y dn dc mn mc yn yc ds ms ys x y w he hl hf (Or.inr h0)
      · exact back_main fr ev ct un D M Y dn dc mn mc yn yc ds ms ys x y w he hl hf hi h0 x1 x2 y1 y2

end Go.Proofs.YtffobailjdhijaaGreatDoor

/- Walks of hostelrylaw7: known, fewRule, numText. -/
import Derived.Test.YtffobailjdhijaaGreatDoorRtM
namespace Go.Proofs.YtffobailjdhijaaGreatDoor
open Go.RowKit Rul Rt Go.Sort

/-- a text that is no rule. -/
theorem parse_none {t : Tx} (h : ansC unU t = none) (hl : t.length ≤ 100000) (w : World) (he : Env w) :
    Calls Tryz.prog 10 #[.string (str t)] w (Ans w (.tuple #[noRule, .int .i64 12])) := by
  refine (parse_any (str t) w he (by rw [str_size]; exact hl)).mono ?_
  rintro e w1 ⟨hb, ⟨_, rfl⟩ | ⟨r, D, dn, dc, M, mn, mc, Y, yn, yc, h1, _⟩⟩
  · exact ⟨rfl, hb⟩
  · rw [str_list, h] at h1; cases h1
/-- a text that is one. -/
def ParseS (w : World) (r : T) (e : Ending) (w' : World) : Prop := Below w.heap.size w w' ∧ ∃ D dc M mc Y yc, e = .returned (.tuple #[.agg #[.int .i64 r.fr, .int .i64 r.ev, .int .i64 r.ct, .int .i64 r.un, .slice D r.ds.length dc, .slice M r.ms.length mc, .slice Y r.ys.length yc], .int .i64 0]) ∧ Lies w' D r.ds.length M r.ms.length Y r.ys.length r.ds r.ms r.ys
theorem parse_some {t : Tx} {r : T} (h : ansC unU t = some r) (hl : t.length ≤ 100000) (w : World) (he : Env w) :
    Calls Tryz.prog 10 #[.string (str t)] w (ParseS w r) := by
  refine (parse_any (str t) w he (by rw [str_size]; exact hl)).mono ?_
  rintro e w1 ⟨hb, ⟨h1, _⟩ | ⟨r, D, dn, dc, M, mn, mc, Y, yn, yc, h1, rfl, hlie⟩⟩
  · rw [str_list, h] at h1; cases h1
  · rw [str_list, h] at h1
    injection h1 with h1
    subst h1
    obtain rfl := hlie.dn
    obtain rfl := hlie.mn
    obtain rfl := hlie.yn
    exact ⟨hb, D, dc, M, mc, Y, yc, rfl, hlie⟩
 deriving instance DecidableEq for Rul.T
theorem known_1 : ansC unU [66, 89, 68, 65, 89, 61, 87, 69, 44, 77, 79, 59, 70, 82, 69, 81, 61, 87, 69, 69, 75, 76, 89, 59, 67, 79, 85, 78, 84, 61, 53] = some ⟨2, 1, 5, -1, [(0, 0), (0, 2)], [], []⟩ := by decide +kernel
theorem known_2 : ansC unU [70, 82, 69, 81, 61, 87, 69, 69, 75, 76, 89, 59, 70, 82, 69, 81, 61, 68, 65, 73, 76, 89] = none := by decide +kernel
theorem known_3 : printE unU ⟨2, 1, 5, -1, [(0, 0), (0, 2)], [], []⟩ = [70, 82, 69, 81, 61, 87, 69, 69, 75, 76, 89, 59, 67, 79, 85, 78, 84, 61, 53, 59, 66, 89, 68, 65, 89, 61, 77, 79, 44, 87, 69] := by decide +kernel
theorem known_4 : dayT (-1, 4) = [45, 49, 70, 82] := by decide +kernel
set_option maxRecDepth 100000 in
set_option maxHeartbeats 2000000 in
theorem known_any (w : World) (he : Env w) : Calls Tryz.prog 8 #[] w (Ans w (.bool true)) := by
  have HE := hide he
  clear he
  go_enter Tryz.func8, Tryz.ntmps8
  go_wp2_with fail
  refine (parse_some known_1 (by decide) _ HE.out).mono ?_
  rintro e w1 ⟨hb, D, dc, M, mc, Y, yc, rfl, hl⟩
  simp only [List.length_cons, List.length_nil]
  have HB := hide (more hb (.cells #[.int .i64 2, .int .i64 1, .int .i64 5, .int .i64 (-1), .slice D 2 dc, .slice M 0 mc, .slice Y 0 yc] 25))
  have HL : Hid (Lies (w1.alloc (.cells #[.int .i64 2, .int .i64 1, .int .i64 5, .int .i64 (-1), .slice D 2 dc, .slice M 0 mc, .slice Y 0 yc] 25)) D 2 M 0 Y 0 [(0, 0), (0, 2)] [] []) := hide (hl.keep (more (start w1) (.cells #[.int .i64 2, .int .i64 1, .int .i64 5, .int .i64 (-1), .slice D 2 dc, .slice M 0 mc, .slice Y 0 yc] 25)))
  obtain ⟨X, hX⟩ : ∃ X, w1.heap.size = X := ⟨_, rfl⟩
  have HQ := hide (box_cells w1 25 (.int .i64 2) (.int .i64 1) (.int .i64 5) (.int .i64 (-1)) (.slice D 2 dc) (.slice M 0 mc) (.slice Y 0 yc) hX)
  clear hb hl
  go_wp2_with fail
  refine (parse_none known_2 (by decide) _ (HE.out.keep HB.out)).mono ?_
  rintro e w2 ⟨rfl, hb2⟩
  unfold noRule
  replace HB := hide (more (andthen HB.out hb2) (.cells #[.int .i64 0, .int .i64 0, .int .i64 0, .int .i64 0, .slice none 0 0, .slice none 0 0, .slice none 0 0] 25))
  have hb3 := more hb2 (.cells #[.int .i64 0, .int .i64 0, .int .i64 0, .int .i64 0, .slice none 0 0, .slice none 0 0, .slice none 0 0] 25)
  replace HL := hide (HL.out.keep hb3)
  have x0 := cell_keep hb3 HQ.out.1
  have x1 := cell_keep hb3 HQ.out.2.1
  have x2 := cell_keep hb3 HQ.out.2.2.1
  have x3 := cell_keep hb3 HQ.out.2.2.2.1
  have x4 := cell_keep hb3 HQ.out.2.2.2.2.1
  have x5 := cell_keep hb3 HQ.out.2.2.2.2.2.1
  have x6 := cell_keep hb3 HQ.out.2.2.2.2.2.2
  rw [hX] at *
  obtain ⟨g, o, rfl, hg, hc⟩ := HL.out.d (by simp)
  have y1 := (hc 0 (by simp)).2
  have HP := hide (fun w hl ht => Print_any 2 1 5 (-1) (some ⟨g, o, none⟩) M Y 2 dc 0 mc 0 yc [(0, 0), (0, 2)] [] [] w hl ht)
  have HD := hide (fun w ht => Day_any (-1) 4 w (by unfold in64; omega) ht)
  rw [known_3] at HP
  rw [known_4] at HD
  have HS : Hid (w.heap.size ≤ w.heap.size) := hide (Nat.le_refl _)
  clear HQ hb2 hb3 hc
  go_wp2_with fail
  refine (HP.out _ HL.out (HE.out.keep HB.out).tab).mono ?_
  rintro e w3 ⟨rfl, hb3⟩
  replace HB := hide (andthen HB.out hb3)
  have q1 := str_tl [70, 82, 69, 81, 61, 87, 69, 69, 75, 76, 89, 59, 67, 79, 85, 78, 84, 61, 53, 59, 66, 89, 68, 65, 89, 61, 77, 79, 44, 87, 69]
  clear hb3 HP HL x0 x1 x2 x3 x4 x5 x6 y1
  go_wp2_with fail
  refine (HD.out _ (HE.out.keep HB.out).tab).mono ?_
  rintro e w4 ⟨rfl, hb4⟩
  have q2 := str_tl [45, 49, 70, 82]
  have e2 : ([45, 49, 70, 82] == ([45, 49, 70, 82] : Tx)) = true := by decide
  go_wp2_with fail
  go_ret
  exact ⟨rfl, andthen HB.out hb4⟩


set_option maxRecDepth 100000 in
set_option maxHeartbeats 400000 in
theorem tNum_small (n : Int) (w : World) (h1 : 0 ≤ n) (h2 : n < 10) :
    Calls Tryz.prog 20 #[.int .i64 n] w (Ans w (.string (str (Lib.itoa n)))) := by
  have hbs := bs1
  have hcv := cv1 (48 + n) (w.alloc (.cells #[.int .u8 (48 + n)] 5)) w.heap.size (by omega) (by omega) (by rw [World.cell?_alloc_at _ _ _ _ rfl]; rfl)
  have HG : Hid ([UInt8.ofNat (48 + n).toNat] = Lib.itoa n) := hide (by rw [itoa_pos n h1, dec_small _ (by omega)]; congr 2; omega)
  go_enter Tryz.func20, Tryz.ntmps20
  go_wp2_with fail
  go_ret
  exact ⟨ret_str (by rw [HG.out]), more (start _) _⟩

set_option maxRecDepth 100000 in
set_option maxHeartbeats 300000 in
theorem tNum_step (n : Int) (w : World) (h1 : 10 ≤ n) (h2 : n ≤ 1000000000) (ih : ∀ w, Calls Tryz.prog 20 #[.int .i64 (n / 10)] w (Ans w (.string (str (Lib.itoa (n / 10)))))) :
    Calls Tryz.prog 20 #[.int .i64 n] w (Ans w (.string (str (Lib.itoa n)))) := by
  have hbs := bs1
  have hcv := fun w b => cv1 (48 + n % 10) w b (by omega) (by omega)
  have HG : Hid (Lib.itoa (n / 10) ++ [UInt8.ofNat (48 + n % 10).toNat] = Lib.itoa n) := hide (by
    rw [itoa_pos n (by omega), itoa_pos (n / 10) (by omega), dec_big n.toNat (by omega)]
    congr 1
    · congr 1; omega
    · congr 2; omega)
  have HI := hide ih
  have hlen : (Lib.itoa (n / 10)).length ≤ 20 := by
    rw [itoa_pos (n / 10) (by omega)]
    have := dec_len 9 (n / 10).toNat (by omega)
    omega
  generalize Lib.itoa (n / 10) = L at *
  have hsz : (str L).size ≤ 20 := by rw [str_size]; exact hlen
  have hsd : (str [UInt8.ofNat (48 + n % 10).toNat]).size = 1 := by rw [str_size]; rfl
  clear ih hlen
  go_enter Tryz.func20, Tryz.ntmps20
  go_wp2_with fail
  have E1 : IntKind.i64.wrap (n.tdiv 10) = n / 10 := by rw [Int.tdiv_eq_ediv_of_nonneg (by omega)]; exact IntWalk.i64_in _ (by omega)
  have E2 : n.tmod 10 = n % 10 := Int.tmod_eq_emod_of_nonneg (by omega)
  have E3 : IntKind.i64.wrap (48 + n % 10) = 48 + n % 10 := IntWalk.i64_in _ (by omega)
  have E4 : IntKind.u8.wrap (48 + n % 10) = 48 + n % 10 := IntWalk.u8_in _ (by omega)
  have hcx0 : (w.alloc (.cells #[.int .u8 (48 + n % 10)] 5)).drew.cell? ⟨w.heap.size, 0, none⟩ = some (.int .u8 (48 + n % 10)) := by simp
  go_region_with (first | (go_at_call 20; with_reducible refine (HI.out (w.alloc (.cells #[.int .u8 (48 + n % 10)] 5)).drew).mono ?_; rintro e w2 ⟨rfl, hb⟩; have hcx := cell_keep hb hcx0) | (go_at_call 20; with_reducible refine (HI.out _).mono ?_; rintro e w2 ⟨rfl, hb⟩))
  all_goals
    go_wp2_with fail
    go_ret
    refine ⟨ret_str (by rw [str_app, HG.out]), ?_⟩
    first
      | exact more (andthen (start w).drew hb) _
      | exact andthen ((more (start w) _).drew) hb

theorem tNum_all : ∀ (k : Nat) (n : Int) (w : World), 0 ≤ n → n ≤ 1000000000 → n.toNat ≤ k →
    Calls Tryz.prog 20 #[.int .i64 n] w (Ans w (.string (str (Lib.itoa n))))
  | 0, n, w, h0, h1, hk => tNum_small n w h0 (by omega)
  | k + 1, n, w, h0, h1, hk => by
    by_cases h : n < 10
    · exact tNum_small n w h0 h
    · exact tNum_step n w (by omega) h1 fun w' => tNum_all k (n / 10) w' (by omega) (by omega) (by omega)
set_option maxHeartbeats 400000 in
theorem tNum_any (n : Int) (w : World) (h0 : -1000000000 ≤ n) (h1 : n ≤ 1000000000) :
    Calls Tryz.prog 20 #[.int .i64 n] w (Ans w (.string (str (Lib.itoa n)))) := by
  by_cases h : 0 ≤ n
  · exact tNum_all n.toNat n w h h1 (Nat.le_refl _)
  · have HG : Hid ([45] ++ Lib.itoa (-n) = Lib.itoa n) := hide (by rw [itoa_ng n (by omega), itoa_pos (-n) (by omega), show (-n).toNat = n.natAbs by omega]; rfl)
    have hlen : (Lib.itoa (-n)).length ≤ 20 := by
      rw [itoa_pos (-n) (by omega)]
      have := dec_len 9 (-n).toNat (by omega)
      omega
    have HI := hide (fun w => tNum_all (-n).toNat (-n) w (by omega) (by omega) (Nat.le_refl _))
    generalize Lib.itoa (-n) = L at *
    have hsz : (str L).size ≤ 20 := by rw [str_size]; exact hlen
    clear hlen
    go_enter Tryz.func20, Tryz.ntmps20
    go_wp2_with fail
    refine (HI.out _).mono ?_
    rintro e w2 ⟨rfl, hb⟩
    go_wp2_with fail
    go_ret
    exact ⟨ret_str (by rw [← HG.out, ← str_app]; rfl), hb⟩

/-- few elements in each list. -/
theorem few_any (fr ev ct un : Int) (D M Y : Option Addr) (dn dc mn mc yn yc : Nat) (w : World) :
    Calls Tryz.prog 9 #[.agg #[.int .i64 fr, .int .i64 ev, .int .i64 ct, .int .i64 un, .slice D dn dc, .slice M mn mc, .slice Y yn yc]] w (Ans w (.bool (decide (dn ≤ 20) && decide (mn ≤ 20) && decide (yn ≤ 20)))) := by
  have q := box_cells w 25 (.int .i64 fr) (.int .i64 ev) (.int .i64 ct) (.int .i64 un) (.slice D dn dc) (.slice M mn mc) (.slice Y yn yc) rfl
  have HB := hide (more (start w) (.cells #[.int .i64 fr, .int .i64 ev, .int .i64 ct, .int .i64 un, .slice D dn dc, .slice M mn mc, .slice Y yn yc] 25))
  obtain ⟨q0, q1, q2, q3, q4, q5, q6⟩ := q
  clear q0 q1 q2 q3
  by_cases h1 : dn ≤ 20
  · by_cases h2 : mn ≤ 20
    · by_cases h3 : yn ≤ 20
      · rw [decide_eq_true h1, decide_eq_true h2, decide_eq_true h3]
        have i1 : (dn : Int) ≤ 20 := by omega
        have i2 : (mn : Int) ≤ 20 := by omega
        have i3 : (yn : Int) ≤ 20 := by omega
        go_enter Tryz.func9, Tryz.ntmps9
        go_wp2_with fail
        go_ret
        exact ⟨rfl, HB.out⟩
      · rw [decide_eq_true h1, decide_eq_true h2, decide_eq_false h3]
        have i1 : (dn : Int) ≤ 20 := by omega
        have i2 : (mn : Int) ≤ 20 := by omega
        have i3 : ¬ (yn : Int) ≤ 20 := by omega
        go_enter Tryz.func9, Tryz.ntmps9
        go_wp2_with fail
        go_ret
        exact ⟨rfl, HB.out⟩
    · rw [decide_eq_true h1, decide_eq_false h2]
      have i1 : (dn : Int) ≤ 20 := by omega
      have i2 : ¬ (mn : Int) ≤ 20 := by omega
      go_enter Tryz.func9, Tryz.ntmps9
      go_wp2_with fail
      go_ret
      exact ⟨rfl, HB.out⟩
  · rw [decide_eq_false h1]
    have i1 : ¬ (dn : Int) ≤ 20 := by omega
    go_enter Tryz.func9, Tryz.ntmps9
    go_wp2_with fail
    go_ret
    exact ⟨rfl, HB.out⟩

end Go.Proofs.YtffobailjdhijaaGreatDoor

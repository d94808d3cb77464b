/- Walks of the statements of layer 6: fewRule, daily, known, same. Written by recipes/ex4.py. -/
import Derived.Test.YtdmplojfidkipaaExCode
import Derived.Test.YtdmplojfidkipaaExMathC
import Derived.Test.YtdmplojfidkipaaRuW
namespace Go.Proofs.Ytdmplojfidkipaa
open Go.RowKit Rul Go.Sort

set_option maxHeartbeats 1000000 in
theorem few_any (fr ev ct un : Int) (D M Y : Option Addr) (dn dc mn mc yn yc : Nat) (w : World) :
    Calls Try.prog 11 #[.agg #[.int .i64 fr, .int .i64 ev, .int .i64 ct, .int .i64 un, .slice D dn dc, .slice M mn mc, .slice Y yn yc]] w (Ans w (.bool (fewB dn mn yn))) := by
  cases h1 : decide (dn ≤ 20)
  · have e := hide (show fewB dn mn yn = false by unfold fewB; rw [h1]; rfl)
    have g1 : decide ((dn : Int) ≤ 20) = false := (le20 dn).trans h1
    go_enter Try.func11, Try.ntmps11
    go_wp2_with fail
    go_ret
    exact ⟨ret_bool (by rw [e.out]), more (start _) _⟩
  · have g1 : decide ((dn : Int) ≤ 20) = true := (le20 dn).trans h1
    cases h2 : decide (mn ≤ 20)
    · have e := hide (show fewB dn mn yn = false by unfold fewB; rw [h1, h2]; rfl)
      have g2 : decide ((mn : Int) ≤ 20) = false := (le20 mn).trans h2
      go_enter Try.func11, Try.ntmps11
      go_wp2_with fail
      go_ret
      exact ⟨ret_bool (by rw [e.out]), more (start _) _⟩
    · have e := hide (show fewB dn mn yn = decide (yn ≤ 20) by unfold fewB; rw [h1, h2]; rfl)
      have g2 : decide ((mn : Int) ≤ 20) = true := (le20 mn).trans h2
      have HX := hide (le20 yn)
      go_enter Try.func11, Try.ntmps11
      go_wp2_with fail
      go_ret
      exact ⟨ret_bool (by rw [e.out]; try exact HX.out), more (start _) _⟩


set_option maxHeartbeats 400000 in
theorem daily_any (n : Int) (w : World) :
    Calls Try.prog 19 #[.int .i64 n] w (Ans w (.agg #[.int .i64 1, .int .i64 1, .int .i64 n, .int .i64 (-1), .slice none 0 0, .slice none 0 0, .slice none 0 0])) := by
  go_enter Try.func19, Try.ntmps19
  go_wp2_with fail
  exact bodyPost_ret (v := .agg #[.int .i64 1, .int .i64 1, .int .i64 n, .int .i64 (-1), .slice none 0 0, .slice none 0 0, .slice none 0 0]) (by simp [results, Try.results19, go_sem]) rfl ⟨rfl, more (start _) _⟩
set_option maxRecDepth 100000 in
set_option maxHeartbeats 2000000 in
theorem known_any (w : World) : Calls Try.prog 10 #[] w (Ans w (.bool true)) := by
  go_enter Try.func10, Try.ntmps10
  have HBX := hide (start w)
  go_wp2_with fail
  refine (daily_any 3 _).mono ?_
  rintro e u1 ⟨rfl, hb⟩
  replace HBX := hide (andthen HBX.out hb)
  clear hb
  have hb := more (start u1) (.cells #[.int .i64 1530] 3)
  have hx := R.row_one u1 1530
  replace HBX := hide (andthen HBX.out hb)
  clear hb
  go_wp2_with fail
  refine (starts_code 1 1 3 (-1) none none none 0 0 0 0 0 0 [] [] [] 90 (some ⟨u1.heap.size, 0, none⟩) 1 1 [1530] _ (lies_once _) hx rfl (by simp)).mono ?_
  rintro e u2 ⟨v1, rfl, hown, hb⟩
  rw [k_1] at hown ⊢
  obtain ⟨A1, c1, rfl, hrow⟩ := hown.row
  obtain ⟨b1, o1, rfl, hl1, hc1⟩ := hrow (by simp)
  have g1 := hc1 1 (by simp)
  replace HBX := hide (andthen HBX.out hb)
  clear hb hx hown hrow hc1 hl1
  go_wp2_with fail
  refine (starts_code 0 0 0 0 none none none 0 0 0 0 0 0 [] [] [] 0 none 0 0 [] _ (lies_once _) (RowI.nil _ _) rfl (by simp)).mono ?_
  rintro e u3 ⟨v2, rfl, hown, hb⟩
  rw [k_2] at hown ⊢
  replace HBX := hide (andthen HBX.out hb)
  replace g1 := cell_keep hb g1
  clear hb hown
  go_wp2_with fail
  refine (starts_code 1 1 0 (-1) none none none 0 0 0 0 0 0 [] [] [] 0 none 0 0 [] _ (lies_once _) (RowI.nil _ _) rfl (by simp)).mono ?_
  rintro e u4 ⟨v3, rfl, hown, hb⟩
  rw [k_3] at hown ⊢
  replace HBX := hide (andthen HBX.out hb)
  replace g1 := cell_keep hb g1
  clear hb hown
  go_wp2_with fail
  refine (daily_any 1 _).mono ?_
  rintro e u5 ⟨rfl, hb⟩
  replace HBX := hide (andthen HBX.out hb)
  replace g1 := cell_keep hb g1
  clear hb
  have hb := more (start u5) (.cells #[.int .i64 90] 3)
  have hx := R.row_one u5 90
  replace HBX := hide (andthen HBX.out hb)
  replace g1 := cell_keep hb g1
  clear hb
  go_wp2_with fail
  refine (starts_code 1 1 1 (-1) none none none 0 0 0 0 0 0 [] [] [] 90 (some ⟨u5.heap.size, 0, none⟩) 1 1 [90] _ (lies_once _) hx rfl (by simp)).mono ?_
  rintro e u6 ⟨v4, rfl, hown, hb⟩
  rw [k_4] at hown ⊢
  replace HBX := hide (andthen HBX.out hb)
  replace g1 := cell_keep hb g1
  clear hb hx hown
  go_wp2_with fail
  refine (daily_any 2 _).mono ?_
  rintro e u7 ⟨rfl, hb⟩
  replace HBX := hide (andthen HBX.out hb)
  replace g1 := cell_keep hb g1
  clear hb
  go_wp2_with fail
  refine (spans_code 1 1 2 (-1) none none none 0 0 0 0 0 0 [] [] [] 90 30 none 0 0 [] _ (lies_once _) (RowI.nil _ _) rfl (by simp)).mono ?_
  rintro e u8 ⟨v5, rfl, hown, hb⟩
  rw [k_5] at hown ⊢
  obtain ⟨A2, c2, rfl, hrow⟩ := hown.row
  obtain ⟨b2, o2, rfl, hl2, hc2⟩ := hrow (by simp)
  obtain ⟨m1, m2⟩ := hc2 1 (by simp)
  replace HBX := hide (andthen HBX.out hb)
  replace g1 := cell_keep hb g1
  clear hb hown hrow hc2 hl2
  go_wp2_with fail
  refine (daily_any 2 _).mono ?_
  rintro e u9 ⟨rfl, hb⟩
  replace HBX := hide (andthen HBX.out hb)
  replace g1 := cell_keep hb g1
  replace m1 := cell_keep hb m1
  replace m2 := cell_keep hb m2
  clear hb
  go_wp2_with fail
  refine (spans_code 1 1 2 (-1) none none none 0 0 0 0 0 0 [] [] [] 90 0 none 0 0 [] _ (lies_once _) (RowI.nil _ _) rfl (by simp)).mono ?_
  rintro e u10 ⟨v6, rfl, hown, hb⟩
  rw [k_6] at hown ⊢
  replace HBX := hide (andthen HBX.out hb)
  replace g1 := cell_keep hb g1
  replace m1 := cell_keep hb m1
  replace m2 := cell_keep hb m2
  clear hb hown
  go_wp2_with fail
  go_ret
  exact ⟨rfl, HBX.out⟩

set_option maxRecDepth 100000 in
set_option maxHeartbeats 1000000 in
/-- two rows alike. -/
theorem alike_any (A A2 : Option Addr) (n n2 c c2 : Nat) (l : List Int) (w : World) (hl : RowI w A l) (hk : RowI w A2 l) (hn : n = l.length) (hn2 : n2 = l.length) (hsz : l.length ≤ 1000) :
    Calls Try.prog 15 #[.slice A n c, .slice A2 n2 c2] w (Ans w (.bool true)) := by
  subst hn hn2
  by_cases hnil : l = []
  · subst hnil
    go_enter Try.func15, Try.ntmps15
    go_wp2_with fail
    refine wp_loop_rounds 1 ?_
    rw [rounds_succ]
    go_wp2_with fail
    go_ret
    exact ⟨rfl, start _⟩
  · obtain ⟨b1, o1, rfl, hb1, hc1⟩ := hl hnil
    obtain ⟨b2, o2, rfl, hb2, hc2⟩ := hk hnil
    have HC1 := hide hc1
    have HC2 := hide hc2
    clear hl hk hc1 hc2 hnil
    have hne : ((l.length : Int) != (l.length : Int)) = false := by simp
    go_enter Try.func15, Try.ntmps15
    go_wp2_with fail
    go_loopw [5] (fun i wr => ∃ j : Nat, j ≤ l.length ∧ i = .int .i64 j ∧ Below w.heap.size w wr) (fun i _ => l.length - (intOf i).toNat)
    case atStart => exact ⟨0, Nat.zero_le _, rfl, start _⟩
    case round =>
      obtain ⟨j, hj, rfl, hbw⟩ := hrel
      by_cases hlt : j < l.length
      · have p1 : wr.cell? ⟨b1, o1 + j, none⟩ = some (.int .i64 l[j]) := (hbw.cell (p := ⟨b1, _, none⟩) hb1).trans (HC1.out j hlt)
        have p2 : wr.cell? ⟨b2, o2 + j, none⟩ = some (.int .i64 l[j]) := (hbw.cell (p := ⟨b2, _, none⟩) hb2).trans (HC2.out j hlt)
        have hi0 : (0 : Int) ≤ (j : Int) := by omega
        have hi1 : (j : Int) < (l.length : Int) := by omega
        have hq : (l[j] != l[j]) = false := by simp
        have HBR := hide hbw
        clear hbw
        go_wp2_with fail
        go_region_held3 (fun w' => w'.cell? ⟨b1, o1 + j, none⟩ = some (.int .i64 l[j]) ∧ w'.cell? ⟨b2, o2 + j, none⟩ = some (.int .i64 l[j])) (exact ⟨cell_keep (start _).drew p1, cell_keep (start _).drew p2⟩) (fail)
        all_goals
          go_wp2_with fail
          go_roundw
          case rel => exact ⟨j + 1, by omega, by go_num, HBR.out.drew⟩
          case measure => simp [intOf]; omega
      · obtain rfl : j = l.length := by omega
        go_wp2_with fail
        go_ret
        exact ⟨rfl, hbw⟩

end Go.Proofs.Ytdmplojfidkipaa

/- Walks of the statements of layer 5: fewRule, known, same. Written by recipes/da7.py. -/
import Derived.Test.YtcjkghpcjjbjhaaDaF
import Derived.Test.YtcjkghpcjjbjhaaRuW
namespace Go.Proofs.Ytcjkghpcjjbjhaa
open Go.RowKit Rul Go.Sort

set_option maxHeartbeats 1000000 in
theorem few_any (fr ev ct un : Int) (D M Y : Option Addr) (dn dc mn mc yn yc : Nat) (w : World) :
    Calls Try.prog 9 #[.agg #[.int .i64 fr, .int .i64 ev, .int .i64 ct, .int .i64 un, .slice D dn dc, .slice M mn mc, .slice Y yn yc]] w (Ans w (.bool (fewB dn mn yn))) := by
  cases h1 : decide (dn ≤ 20)
  · have e := hide (show fewB dn mn yn = false by unfold fewB; rw [h1]; rfl)
    have g1 : decide ((dn : Int) ≤ 20) = false := (le20 dn).trans h1
    go_enter Try.func9, Try.ntmps9
    go_wp2_with fail
    go_ret
    exact ⟨ret_bool (by rw [e.out]), more (start _) _⟩
  · have g1 : decide ((dn : Int) ≤ 20) = true := (le20 dn).trans h1
    cases h2 : decide (mn ≤ 20)
    · have e := hide (show fewB dn mn yn = false by unfold fewB; rw [h1, h2]; rfl)
      have g2 : decide ((mn : Int) ≤ 20) = false := (le20 mn).trans h2
      go_enter Try.func9, Try.ntmps9
      go_wp2_with fail
      go_ret
      exact ⟨ret_bool (by rw [e.out]), more (start _) _⟩
    · have e := hide (show fewB dn mn yn = decide (yn ≤ 20) by unfold fewB; rw [h1, h2]; rfl)
      have g2 : decide ((mn : Int) ≤ 20) = true := (le20 mn).trans h2
      have HX := hide (le20 yn)
      go_enter Try.func9, Try.ntmps9
      go_wp2_with fail
      go_ret
      exact ⟨ret_bool (by rw [e.out]; try exact HX.out), more (start _) _⟩


theorem k_days : daysL ⟨2, 1, 0, -1, [(0, 1)], [], []⟩ 10 1 = [17] := by decide +kernel
theorem k_a : perA ⟨2, 1, 0, -1, [(0, 1)], [], []⟩ 10 1 = 16 := by decide +kernel
theorem k_b : perB ⟨2, 1, 0, -1, [(0, 1)], [], []⟩ 10 1 = 23 := by decide +kernel
theorem k_q : perK ⟨2, 1, 0, -1, [(0, 1)], [], []⟩ 10 1 = true := by decide +kernel
theorem n_a : perA ⟨2, 1, 0, -1, [(0, 1)], [], []⟩ 10 (-1) = 0 := by decide +kernel
theorem n_b : perB ⟨2, 1, 0, -1, [(0, 1)], [], []⟩ 10 (-1) = 0 := by decide +kernel
theorem n_q : perK ⟨2, 1, 0, -1, [(0, 1)], [], []⟩ 10 (-1) = false := by decide +kernel
set_option maxRecDepth 100000 in
set_option maxHeartbeats 2000000 in
theorem known_any (w : World) : Calls Try.prog 8 #[] w (Ans w (.bool true)) := by
  have HBX := hide (more (more (start w) (.cells #[.int .i64 0, .int .i64 1] 47)) (.cells #[.int .i64 2, .int .i64 1, .int .i64 0, .int .i64 (-1), .slice (some ⟨w.heap.size, 0, none⟩) 1 1, .slice none 0 0, .slice none 0 0] 25))
  have HL : Hid (Lies ((w.alloc (.cells #[.int .i64 0, .int .i64 1] 47)).alloc (.cells #[.int .i64 2, .int .i64 1, .int .i64 0, .int .i64 (-1), .slice (some ⟨w.heap.size, 0, none⟩) 1 1, .slice none 0 0, .slice none 0 0] 25)) (some ⟨w.heap.size, 0, none⟩) 1 none 0 none 0 [(0, 1)] [] []) := hide (Lies.keep (lies_day (rowD_one w 0 1 47)) (more (start _) _))
  have s0 : ((w.alloc (.cells #[.int .i64 0, .int .i64 1] 47)).alloc (.cells #[.int .i64 2, .int .i64 1, .int .i64 0, .int .i64 (-1), .slice (some ⟨w.heap.size, 0, none⟩) 1 1, .slice none 0 0, .slice none 0 0] 25)).cell? ⟨w.heap.size + 1, 0, none⟩ = some (.int .i64 2) := by rw [World.cell?_alloc_at _ _ _ _ (by simp)]; rfl
  have s1 : ((w.alloc (.cells #[.int .i64 0, .int .i64 1] 47)).alloc (.cells #[.int .i64 2, .int .i64 1, .int .i64 0, .int .i64 (-1), .slice (some ⟨w.heap.size, 0, none⟩) 1 1, .slice none 0 0, .slice none 0 0] 25)).cell? ⟨w.heap.size + 1, 1, none⟩ = some (.int .i64 1) := by rw [World.cell?_alloc_at _ _ _ _ (by simp)]; rfl
  have s2 : ((w.alloc (.cells #[.int .i64 0, .int .i64 1] 47)).alloc (.cells #[.int .i64 2, .int .i64 1, .int .i64 0, .int .i64 (-1), .slice (some ⟨w.heap.size, 0, none⟩) 1 1, .slice none 0 0, .slice none 0 0] 25)).cell? ⟨w.heap.size + 1, 2, none⟩ = some (.int .i64 0) := by rw [World.cell?_alloc_at _ _ _ _ (by simp)]; rfl
  have s3 : ((w.alloc (.cells #[.int .i64 0, .int .i64 1] 47)).alloc (.cells #[.int .i64 2, .int .i64 1, .int .i64 0, .int .i64 (-1), .slice (some ⟨w.heap.size, 0, none⟩) 1 1, .slice none 0 0, .slice none 0 0] 25)).cell? ⟨w.heap.size + 1, 3, none⟩ = some (.int .i64 (-1)) := by rw [World.cell?_alloc_at _ _ _ _ (by simp)]; rfl
  have s4 : ((w.alloc (.cells #[.int .i64 0, .int .i64 1] 47)).alloc (.cells #[.int .i64 2, .int .i64 1, .int .i64 0, .int .i64 (-1), .slice (some ⟨w.heap.size, 0, none⟩) 1 1, .slice none 0 0, .slice none 0 0] 25)).cell? ⟨w.heap.size + 1, 4, none⟩ = some (.slice (some ⟨w.heap.size, 0, none⟩) 1 1) := by rw [World.cell?_alloc_at _ _ _ _ (by simp)]; rfl
  have s5 : ((w.alloc (.cells #[.int .i64 0, .int .i64 1] 47)).alloc (.cells #[.int .i64 2, .int .i64 1, .int .i64 0, .int .i64 (-1), .slice (some ⟨w.heap.size, 0, none⟩) 1 1, .slice none 0 0, .slice none 0 0] 25)).cell? ⟨w.heap.size + 1, 5, none⟩ = some (.slice none 0 0) := by rw [World.cell?_alloc_at _ _ _ _ (by simp)]; rfl
  have s6 : ((w.alloc (.cells #[.int .i64 0, .int .i64 1] 47)).alloc (.cells #[.int .i64 2, .int .i64 1, .int .i64 0, .int .i64 (-1), .slice (some ⟨w.heap.size, 0, none⟩) 1 1, .slice none 0 0, .slice none 0 0] 25)).cell? ⟨w.heap.size + 1, 6, none⟩ = some (.slice none 0 0) := by rw [World.cell?_alloc_at _ _ _ _ (by simp)]; rfl
  go_enter Try.func8, Try.ntmps8
  go_wp2_with fail
  generalize ((w.alloc (.cells #[.int .i64 0, .int .i64 1] 47)).alloc (.cells #[.int .i64 2, .int .i64 1, .int .i64 0, .int .i64 (-1), .slice (some ⟨w.heap.size, 0, none⟩) 1 1, .slice none 0 0, .slice none 0 0] 25)) = W at *
  refine (of_any 2 1 0 (-1) (some ⟨w.heap.size, 0, none⟩) none none 1 1 0 0 0 0 [(0, 1)] [] [] 10 1 _ HL.out).mono ?_
  rintro e u1 ⟨v, rfl, hown, hb⟩
  rw [k_days] at hown
  obtain ⟨A, c, rfl, hrow⟩ := hown.row
  obtain ⟨b, off, rfl, hlt, hcl⟩ := hrow (by simp)
  have g0 := hcl 0 (by simp)
  rw [Nat.add_zero] at g0
  replace HBX := hide (andthen HBX.out hb)
  replace HL := hide (HL.out.keep hb)
  replace s0 := cell_keep hb s0
  replace s1 := cell_keep hb s1
  replace s2 := cell_keep hb s2
  replace s3 := cell_keep hb s3
  replace s4 := cell_keep hb s4
  replace s5 := cell_keep hb s5
  replace s6 := cell_keep hb s6
  clear hb hown hrow hcl
  go_wp2_with fail
  refine (period_is 2 1 0 (-1) (some ⟨w.heap.size, 0, none⟩) none none 1 1 0 0 0 0 [(0, 1)] [] [] 10 1 16 23 true _ HL.out k_a k_b k_q).mono ?_
  rintro e u1 ⟨rfl, hb⟩
  replace HBX := hide (andthen HBX.out hb)
  replace HL := hide (HL.out.keep hb)
  replace s0 := cell_keep hb s0
  replace s1 := cell_keep hb s1
  replace s2 := cell_keep hb s2
  replace s3 := cell_keep hb s3
  replace s4 := cell_keep hb s4
  replace s5 := cell_keep hb s5
  replace s6 := cell_keep hb s6
  replace g0 := cell_keep hb g0
  clear hb
  go_wp2_with fail
  refine (period_is 2 1 0 (-1) (some ⟨w.heap.size, 0, none⟩) none none 1 1 0 0 0 0 [(0, 1)] [] [] 10 (-1) 0 0 false _ HL.out n_a n_b n_q).mono ?_
  rintro e u2 ⟨rfl, hb⟩
  replace HBX := hide (andthen HBX.out hb)
  replace HL := hide (HL.out.keep hb)
  replace s0 := cell_keep hb s0
  replace s1 := cell_keep hb s1
  replace s2 := cell_keep hb s2
  replace s3 := cell_keep hb s3
  replace s4 := cell_keep hb s4
  replace s5 := cell_keep hb s5
  replace s6 := cell_keep hb s6
  replace g0 := cell_keep hb g0
  clear hb
  go_wp2_with fail
  go_ret
  exact ⟨rfl, HBX.out⟩

theorem eq_end (l k : List Int) (hl : l.length = k.length) (h : ∀ i (h1 : i < l.length) (h2 : i < k.length), l[i] = k[i]) : l = k := List.ext_getElem hl h
set_option maxRecDepth 100000 in
set_option maxHeartbeats 1000000 in
/-- two rows alike. -/
theorem alike_any (A A2 : Option Addr) (n n2 c c2 : Nat) (l : List Int) (w : World) (hl : RowI w A l) (hk : RowI w A2 l) (hn : n = l.length) (hn2 : n2 = l.length) (hsz : l.length ≤ 1000) :
    Calls Try.prog 12 #[.slice A n c, .slice A2 n2 c2] w (Ans w (.bool true)) := by
  subst hn hn2
  by_cases hnil : l = []
  · subst hnil
    go_enter Try.func12, Try.ntmps12
    go_wp2_with fail
    refine wp_loop_rounds 1 ?_
    rw [rounds_succ]
    go_wp2_with fail
    go_ret
    exact ⟨rfl, start _⟩
  · obtain ⟨b1, o1, rfl, hb1, hc1⟩ := hl hnil
    obtain ⟨b2, o2, rfl, hb2, hc2⟩ := hk hnil
    have HC1 := hide hc1
    have HC2 := hide hc2
    clear hl hk hc1 hc2 hnil
    have hne : ((l.length : Int) != (l.length : Int)) = false := by simp
    go_enter Try.func12, Try.ntmps12
    go_wp2_with fail
    go_loopw [5] (fun i wr => ∃ j : Nat, j ≤ l.length ∧ i = .int .i64 j ∧ Below w.heap.size w wr) (fun i _ => l.length - (intOf i).toNat)
    case atStart => exact ⟨0, Nat.zero_le _, rfl, start _⟩
    case round =>
      obtain ⟨j, hj, rfl, hbw⟩ := hrel
      by_cases hlt : j < l.length
      · have p1 : wr.cell? ⟨b1, o1 + j, none⟩ = some (.int .i64 l[j]) := (hbw.cell (p := ⟨b1, _, none⟩) hb1).trans (HC1.out j hlt)
        have p2 : wr.cell? ⟨b2, o2 + j, none⟩ = some (.int .i64 l[j]) := (hbw.cell (p := ⟨b2, _, none⟩) hb2).trans (HC2.out j hlt)
        have hi0 : (0 : Int) ≤ (j : Int) := by omega
        have hi1 : (j : Int) < (l.length : Int) := by omega
        have hq : (l[j] != l[j]) = false := by simp
        have HBR := hide hbw
        clear hbw
        go_wp2_with fail
        go_region_held3 (fun w' => w'.cell? ⟨b1, o1 + j, none⟩ = some (.int .i64 l[j]) ∧ w'.cell? ⟨b2, o2 + j, none⟩ = some (.int .i64 l[j])) (exact ⟨cell_keep (start _).drew p1, cell_keep (start _).drew p2⟩) (fail)
        all_goals
          go_wp2_with fail
          go_roundw
          case rel => exact ⟨j + 1, by omega, by go_num, HBR.out.drew⟩
          case measure => simp [intOf]; omega
      · obtain rfl : j = l.length := by omega
        go_wp2_with fail
        go_ret
        exact ⟨rfl, hbw⟩

end Go.Proofs.Ytcjkghpcjjbjhaa

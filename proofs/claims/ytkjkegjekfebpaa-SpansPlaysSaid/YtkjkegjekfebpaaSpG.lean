/- Package span: union of every row, All. -/
import Derived.Test.YtkjkegjekfebpaaSpF
import Derived.Lib.QuietBelow
import Derived.RegionTactic
namespace Go.Proofs.Ytkjkegjekfebpaa
open Go.RowKit Spn Go.Sort

theorem Own.snoc {w : World} {B : Nat} {v : Value} {o : List Sp} {z : Sp} (h : Own w B v (o ++ [z])) : ∃ g cap, v = .slice (some ⟨g, 0, none⟩) (o.length + 1) cap ∧ B ≤ g ∧ g < w.heap.size := by
  rcases h.2 with ⟨_, h0⟩ | ⟨g, cap, cur, h1, hb, hg, _⟩
  · simp at h0
  · exact ⟨g, cap, by simpa using h1, hb, (Array.getElem?_eq_some_iff.1 hg).1⟩
theorem Own.nil_len {w : World} {B : Nat} {v : Value} (h : Own w B v []) : ∃ A cap, v = .slice A 0 cap := by
  rcases h.2 with ⟨h0, _⟩ | ⟨g, cap, cur, h1, _⟩
  · exact ⟨none, 0, h0⟩
  · exact ⟨_, cap, h1⟩
theorem Own.drew {w : World} {B : Nat} {v : Value} {l : List Sp} (h : Own w B v l) : Own w.drew B v l := h
theorem Own.last {w : World} {B g cap n : Nat} {o : List Sp} {z : Sp} (h : Own w B (.slice (some ⟨g, 0, none⟩) n cap) (o ++ [z])) :
    w.cell? ⟨g, o.length * 2, none⟩ = some (.int .i64 z.1) ∧ w.cell? ⟨g, o.length * 2 + 1, none⟩ = some (.int .i64 z.2) ∧ ∀ i, w.frozen? ⟨g, i, none⟩ = false := by
  have hc := World.ownsRow.cells h (g := g) rfl
  obtain ⟨c1, c2⟩ := cellsL_get (o ++ [z]) o.length (by simp)
  have g1 := hc _ _ c1
  have g2 := hc _ _ c2
  rw [plus] at g1 g2
  simp only [List.getElem_concat_length] at g1 g2
  refine ⟨g1, g2, fun i => ?_⟩
  rcases h.2 with ⟨h1, _⟩ | ⟨g', cap', cur, h1, _, hg, _⟩
  · cases h1
  · injection h1 with h1 _ _
    injection h1 with h1
    injection h1 with h1 _ _
    subst h1
    simp [World.frozen?, hg]
theorem Own.setLast {w : World} {B g cap n : Nat} {o : List Sp} {z : Sp} (h : Own w B (.slice (some ⟨g, 0, none⟩) n cap) (o ++ [z])) (y : Int) :
    Own (w.setCell ⟨g, o.length * 2 + 1, none⟩ (.int .i64 y)) B (.slice (some ⟨g, 0, none⟩) n cap) (o ++ [(z.1, y)]) := by
  rcases h.2 with ⟨h1, _⟩ | ⟨g', cap', cur, h1, hb, hg, hnc, hcm, hcs, htake⟩
  · cases h1
  · injection h1 with h1 hn hcap
    injection h1 with h1
    injection h1 with h1 _ _
    subst h1 hn hcap
    refine ⟨cellsL_len _, Or.inr ⟨g, cap, cur.setIfInBounds (o.length * 2 + 1) (.int .i64 y), by simp, hb, ?_, by simpa using hnc, hcm, by simpa using hcs, ?_⟩⟩
    · simp [World.setCell, Array.getElem?_modify, hg]
    · have e1 : cellsL (o ++ [z]) = cellsL o ++ [.int .i64 z.1, .int .i64 z.2] := by rw [cellsL_append]; rfl
      have e2 : cellsL (o ++ [(z.1, y)]) = (cellsL (o ++ [z])).set (o.length * 2 + 1) (.int .i64 y) := by
        rw [e1, cellsL_append, List.set_append_right _ _ (by rw [cellsL_len]; omega), cellsL_len, show o.length * 2 + 1 - o.length * 2 = 1 by omega]
        rfl
      rw [e2, ← htake]
      simp [List.take_set]

set_option maxRecDepth 100000 in
set_option maxHeartbeats 2000000 in
theorem union_any (A : Option Addr) (n c : Nat) (l : List Sp) (w : World) (h : Row w A l) (he : n = l.length) (hn : l.length ≤ 1000000) :
    Calls Try.prog 49 #[.slice A n c] w (Gives w (canon l)) := by
  have HR := hide h
  have HE := hide he
  clear h he
  go_enter Try.func49, Try.ntmps49
  go_wp2_with fail
  refine (valid_any A n c l _ HR.out HE.out hn).mono ?_
  rintro e w1 ⟨v1, rfl, hown1, hb1⟩
  have hvl := valid_len l
  go_wp2_with fail
  refine (sort_any w.heap.size v1 (valid l) w1 hown1 (by omega)).mono ?_
  rintro e w2 ⟨rfl, d, hp, hasc, hdl, hown2, hgr⟩
  have hmc := hide (mrg_canon l d hp hasc)
  have hb2 : Below w.heap.size w w2 := hb1.grown hgr hb1.size fun j hj => (hown1.lt j hj).1
  obtain ⟨A2, cap2, rfl, hrow⟩ := Own.row hown2
  clear hgr hown1 hp hasc
  go_wp2_with fail
  rw [← hdl]
  have hdn : d.length ≤ 1000000 := by omega
  clear hown2 hb1 hdl hvl
  by_cases hd : d = []
  · subst hd
    refine wp_loop_rounds 1 ?_
    rw [rounds_succ]
    go_wp2_with fail
    go_ret
    exact ⟨_, rfl, by rw [← hmc.out]; exact World.ownsRow_nil _ _ _ _, hb2⟩
  · obtain ⟨b, off, rfl, hb, hcl⟩ := hrow hd
    have HC := hide hcl
    clear hcl hrow hd
    go_loopw [4, 14] (fun v i wr => ∃ k : Nat, k ≤ d.length ∧ i = .int .i64 k ∧ Own wr w2.heap.size v (mrg (d.take k)) ∧ Below w2.heap.size w2 wr) (fun _ i _ => d.length - (intOf i).toNat)
    case atStart => exact ⟨0, Nat.zero_le _, rfl, World.ownsRow_nil _ _ _ _, start _⟩
    case round =>
      obtain ⟨k, hk, rfl, hown, hbw⟩ := hrel
      by_cases hlt : k < d.length
      · obtain ⟨c1, c2⟩ := HC.out k hlt
        obtain ⟨hc, hf⟩ := old hbw
        have hsz := hbw.size
        have hml := mrg_len (d.take k)
        have htl : (d.take k).length ≤ k := List.length_take_le _ _
        have hmt := mrg_take d k hlt
        generalize mrg (d.take k) = m at hown hml hmt ⊢
        rcases List.eq_nil_or_concat m with rfl | ⟨o, z, rfl⟩
        · have HM := hide hmt
          clear hmt
          obtain ⟨A4, cap4, rfl⟩ := Own.nil_len hown
          go_wp2_with fail
          go_quiet (fail)
          have hbb := below_drawn (more (start wr) (.cells #[.int .i64 d[k].1, .int .i64 d[k].2] 25)) nq
          have hown2 := Own.keep hown hbb
          have hNN : ((wr.alloc (.cells #[.int .i64 d[k].1, .int .i64 d[k].2] 25)).drewN nq).heap.size = wr.heap.size + 1 := by simp
          have hle : w2.heap.size ≤ ((wr.alloc (.cells #[.int .i64 d[k].1, .int .i64 d[k].2] 25)).drewN nq).heap.size := by omega
          have HNN := hide hNN
          clear hNN
          go_wp2_with (at_builtin; refine wp_one (p := d[k]) rfl _ _ rfl rfl HNN.out rfl hown2 hle (Nat.zero_le _) ?_; intro v2 w3 hown3 hbw3)
          go_roundw
          case rel => exact ⟨k + 1, by omega, by go_num, by rw [HM.out, put_nil]; exact hown3, (hbw.trans (hbb.mono hsz)).trans hbw3⟩
          case measure => simp [intOf]; omega
        · rw [List.concat_eq_append] at *
          obtain ⟨g, cap4, rfl, hg1, hg2⟩ := Own.snoc hown
          obtain ⟨q1, q2, q3⟩ := Own.last hown
          have hol : (o ++ [z]).length = o.length + 1 := by simp
          have hob : o.length + 1 ≤ 1000000 := by omega
          clear hol
          have HM := hide hmt
          have HT := hide (rfl : touchB (z.1, z.2) (d[k].1, d[k].2) = touchB (z.1, z.2) (d[k].1, d[k].2))
          clear hmt
          go_wp2_with fail
          generalize hW : wr.alloc (.cells #[.int .i64 d[k].1, .int .i64 d[k].2] 25) = W
          have f1 : ∀ d os, (grow (redrawn W d) os).cell? ⟨g, o.length * 2, none⟩ = some (.int .i64 z.1) := fun d os => cell_regrown (by rw [← hW, World.cell?_alloc_past _ _ _ hg2]; exact q1) d os
          have f2 : ∀ d os, (grow (redrawn W d) os).cell? ⟨g, o.length * 2 + 1, none⟩ = some (.int .i64 z.2) := fun d os => cell_regrown (by rw [← hW, World.cell?_alloc_past _ _ _ hg2]; exact q2) d os
          have f3 : ∀ e os, (grow (redrawn W e) os).cell? ⟨wr.heap.size, 0, none⟩ = some (.int .i64 d[k].1) := fun d os => cell_regrown (by rw [← hW, World.cell?_alloc_at _ _ _ _ rfl]; rfl) d os
          have f4 : ∀ e os, (grow (redrawn W e) os).cell? ⟨wr.heap.size, 1, none⟩ = some (.int .i64 d[k].2) := fun d os => cell_regrown (by rw [← hW, World.cell?_alloc_at _ _ _ _ rfl]; rfl) d os
          have HW := hide hW
          clear hW
          refine wp_region_quiet_below (by kernel_rfl) (by kernel_rfl) ?_
          repeat (first | go_big_quiet_step ((go_at_call 60; exact Calls.regrown_of (touch_any _ _ _ _ _))) | quiet_step ((go_at_call 60; exact Calls.regrown_of (touch_any _ _ _ _ _))))
          refine wpQuiet_nil ?_
          intro _ hw'
          obtain ⟨⟨nq, osq⟩, hw''⟩ := hw'
          subst hw''
          have hWW : Below wr.heap.size wr W := by rw [← HW.out]; exact more (start _) _
          have hbb : Below wr.heap.size wr (grow (redrawn W nq) osq) := andthen hWW (below_regrown W nq osq)
          have e1 := f1 nq osq
          have e2 := f2 nq osq
          have e3 := f3 nq osq
          have e4 := f4 nq osq
          have hown2 := Own.keep hown hbb
          have e5 := (Own.last hown2).2.2
          have hzz := hbb.size
          clear f1 f2 f3 f4 hWW HW
          generalize grow (redrawn W nq) osq = W2 at *
          generalize hT : touchB (z.1, z.2) (d[k].1, d[k].2) = tb
          cases tb
          · have HT2 : Hid (mrg (d.take (k + 1)) = o ++ [z] ++ [d[k]]) := by
              show mrg (d.take (k + 1)) = _
              rw [HM.out, put_snoc, if_neg]
              intro hc
              rw [show touchB (z.1, z.2) (d[k].1, d[k].2) = true from decide_eq_true hc] at hT
              cases hT
            clear hT
            have hle : w2.heap.size ≤ W2.heap.size := by omega
            go_wp2_with (at_builtin; refine wp_one (l := o ++ [z]) (p := d[k]) rfl _ _ rfl rfl rfl rfl hown2 hle (by simp; omega) ?_; intro v2 w3 hown3 hbw3)
            go_roundw
            case rel => exact ⟨k + 1, by omega, by go_num, by rw [HT2.out]; exact hown3, (hbw.trans (hbb.mono hsz)).trans hbw3⟩
            case measure => simp [intOf]; omega
          · have HT2 : Hid (mrg (d.take (k + 1)) = o ++ [(z.1, max z.2 d[k].2)]) := by
              show mrg (d.take (k + 1)) = _
              rw [HM.out, put_snoc, if_pos (of_decide_eq_true hT)]
            clear hT
            have hi0 : (0 : Int) ≤ (o.length : Int) := by omega
            have hi1 : (o.length : Int) < (o.length : Int) + 1 := by omega
            go_wp2_with fail
            go_region
            all_goals
              go_wp2_with fail
              go_roundw
              case rel => exact ⟨k + 1, by omega, by go_num, by rw [HT2.out]; exact Own.drew (Own.setLast hown2 _), ((hbw.trans (hbb.mono hsz)).setCell hg1 _).drew⟩
              case measure => simp [intOf]; omega
      · obtain rfl : k = d.length := by omega
        rw [List.take_length, hmc.out] at hown
        go_wp2_with fail
        go_ret
        exact Gives.of hown hb2.size (andthen hb2 hbw)

end Go.Proofs.Ytkjkegjekfebpaa

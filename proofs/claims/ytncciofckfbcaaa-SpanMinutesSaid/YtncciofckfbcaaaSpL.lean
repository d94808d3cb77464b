/- The laws' own helpers walked: is a minute in one of a row; the sum of a row's lengths. -/
import Derived.Test.YtncciofckfbcaaaSpK
import Derived.Test.YtncciofckfbcaaaSpMathB
namespace Go.Proofs.Ytncciofckfbcaaa
open Go.RowKit Spn Go.Sort

set_option maxRecDepth 100000 in
set_option maxHeartbeats 1000000 in
theorem inLaw_any (A : Option Addr) (n c : Nat) (l : List Sp) (m : Int) (w : World) (hr : Row w A l) (hn : n = l.length) (hs : l.length ≤ 1000000) :
    Calls Try.prog 27 #[.slice A n c, .int .i64 m] w fun e w' => e = .returned (.bool (inL l m)) ∧ Below w.heap.size w w' := by
  subst hn
  by_cases hl : l = []
  · subst hl
    go_enter Try.func27, Try.ntmps27
    go_wp2_with fail
    refine wp_loop_rounds 1 ?_
    rw [rounds_succ]
    go_wp2_with fail
    go_ret
    exact ⟨rfl, start _⟩
  · obtain ⟨b, off, rfl, hb, hc⟩ := hr hl
    have HC := hide hc
    clear hr hc hl
    go_enter Try.func27, Try.ntmps27
    go_wp2_with fail
    go_loopw [5] (fun i wr => ∃ k : Nat, k ≤ l.length ∧ i = .int .i64 k ∧ Hid (inL (l.take k) m = false) ∧ Below w.heap.size w wr) (fun i _ => l.length - (intOf i).toNat)
    case atStart => exact ⟨0, Nat.zero_le _, rfl, hide rfl, start _⟩
    case round =>
      obtain ⟨k, hk, rfl, HF, hbw⟩ := hrel
      by_cases hlt : k < l.length
      · obtain ⟨c1, c2⟩ := HC.out k hlt
        obtain ⟨hc, hf⟩ := old hbw
        cases hi : inB (l[k].1, l[k].2) m
        · have HI := hide hi
          have HN := hide (show inL (l.take (k + 1)) m = false by rw [inL_take l m k hlt, HF.out]; exact hi)
          clear hi
          go_wp2_with fail
          refine (in_is _ _ _ false _ HI.out).mono ?_
          rintro e w1 ⟨rfl, hb1⟩
          have hbb := andthen hbw hb1
          go_wp2_with fail
          go_roundw
          case rel => exact ⟨k + 1, by omega, by go_num, HN, hbb⟩
          case measure => simp [intOf]; omega
        · have HI := hide hi
          have HN := hide (inL_true l m k hlt hi)
          clear hi
          go_wp2_with fail
          refine (in_is _ _ _ true _ HI.out).mono ?_
          rintro e w1 ⟨rfl, hb1⟩
          have hbb := andthen hbw hb1
          go_wp2_with fail
          go_ret
          exact ⟨ret_bool HN.out.symm, hbb⟩
      · obtain rfl : k = l.length := by omega
        have HN := hide (show inL l m = false by have := HF.out; rwa [List.take_length] at this)
        go_wp2_with fail
        go_ret
        exact ⟨ret_bool HN.out.symm, hbw⟩

set_option maxRecDepth 100000 in
set_option maxHeartbeats 1000000 in
theorem longLaw_any (A : Option Addr) (n c : Nat) (l : List Sp) (w : World) (hr : Row w A l) (hn : n = l.length) (hs : l.length ≤ 1000000) :
    Calls Try.prog 28 #[.slice A n c] w fun e w' => e = .returned (.int .i64 (sumL l)) ∧ Below w.heap.size w w' := by
  subst hn
  by_cases hl : l = []
  · subst hl
    go_enter Try.func28, Try.ntmps28
    go_wp2_with fail
    refine wp_loop_rounds 1 ?_
    rw [rounds_succ]
    go_wp2_with fail
    go_ret
    exact ⟨rfl, start _⟩
  · obtain ⟨b, off, rfl, hb, hc⟩ := hr hl
    have HC := hide hc
    clear hr hc hl
    go_enter Try.func28, Try.ntmps28
    go_wp2_with fail
    go_loopw [3, 4] (fun s i wr => ∃ k : Nat, k ≤ l.length ∧ i = .int .i64 k ∧ s = .int .i64 (sumL (l.take k)) ∧ Below w.heap.size w wr) (fun _ i _ => l.length - (intOf i).toNat)
    case atStart => exact ⟨0, Nat.zero_le _, rfl, rfl, start _⟩
    case round =>
      obtain ⟨k, hk, rfl, rfl, hbw⟩ := hrel
      by_cases hlt : k < l.length
      · obtain ⟨c1, c2⟩ := HC.out k hlt
        obtain ⟨hc, hf⟩ := old hbw
        have HT := hide (sumL_take l k hlt)
        have hs1 := sumL_bd (l.take k)
        have htl : (l.take k).length ≤ k := List.length_take_le _ _
        have hs2 := long_bd l[k]
        have hs3 : 0 ≤ sumL (l.take k) := hs1.1
        have hs4 : sumL (l.take k) ≤ 52596000000000 := by have := hs1.2; omega
        clear hs1 htl
        generalize hS : sumL (l.take k) = S at *
        generalize hG : long l[k] = G at *
        have HG := hide (show long (l[k].1, l[k].2) = G from hG)
        clear hS hG
        go_wp2_with fail
        refine (long_is _ _ G _ HG.out).mono ?_
        rintro e w1 ⟨rfl, hb1⟩
        have hbb := andthen hbw hb1
        go_wp2_with fail
        go_roundw
        case rel => exact ⟨k + 1, by omega, by go_num, by rw [HT.out], hbb⟩
        case measure => simp [intOf]; omega
      · obtain rfl : k = l.length := by omega
        rw [List.take_length]
        go_wp2_with fail
        go_ret
        exact ⟨rfl, hbw⟩

end Go.Proofs.Ytncciofckfbcaaa

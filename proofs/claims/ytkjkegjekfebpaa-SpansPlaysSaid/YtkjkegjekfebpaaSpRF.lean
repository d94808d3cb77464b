/- Walks of the reference of layer 2: Add of every own row, All. -/
import Derived.Test.YtkjkegjekfebpaaSpRE
namespace Go.Proofs.Ytkjkegjekfebpaa.R
open Go.RowKit Spn Go.Sort

set_option maxRecDepth 100000 in
set_option maxHeartbeats 1000000 in
theorem add_nil (B : Nat) (A : Option Addr) (c : Nat) (f t : Int) (w : World) (hB : B ≤ w.heap.size) (hok : okB (f, t) = true) :
    Calls Try.prog 12 #[.slice A 0 c, .agg #[.int .i64 f, .int .i64 t]] w (Hands w B [(f, t)]) := by
  have H1 := hide hok
  clear hok
  go_enter Try.func12, Try.ntmps12
  go_wp2_with fail
  refine (is_at _ _ true _ H1.out).mono ?_
  rintro e w1 ⟨rfl, hb1⟩
  obtain ⟨hc, hf⟩ := old hb1
  have z0 : w.heap.size < w1.heap.size := by have := hb1.size; simp only [World.size_alloc] at this; omega
  go_wp2_with fail
  have hbW : Below w.heap.size w (w1.alloc (.cells #[.int .i64 f, .int .i64 t] 25)) := more (andthen (more (start _) _) hb1) _
  have hX1 : (w1.alloc (.cells #[.int .i64 f, .int .i64 t] 25)).cell? ⟨w1.heap.size, 0, none⟩ = some (.int .i64 f) := by rw [World.cell?_alloc_at _ _ _ _ rfl]; rfl
  have hX2 : (w1.alloc (.cells #[.int .i64 f, .int .i64 t] 25)).cell? ⟨w1.heap.size, 1, none⟩ = some (.int .i64 t) := by rw [World.cell?_alloc_at _ _ _ _ rfl]; rfl
  clear hc hf
  generalize w1.alloc (.cells #[.int .i64 f, .int .i64 t] 25) = W at *
  generalize w1.heap.size = X at *
  clear hb1
  refine wp_loop_rounds 1 ?_
  rw [rounds_succ]
  go_wp2_with (at_builtin; refine wp_one (w := W) (l := []) (p := (f, t)) rfl _ _ rfl rfl rfl rfl (World.ownsRow_nil W W.heap.size 25 2) (Nat.le_refl _) (by simp) ?_; intro v4 w4 hown4 hbw4)
  go_ret
  exact ⟨_, rfl, Own.low hown4 (Nat.le_trans hB hbW.size), andthen hbW hbw4⟩
theorem add_any (B : Nat) (v : Value) (l : List Sp) (f t : Int) (w : World) (hown : Own w B v l) (hB : B ≤ w.heap.size) (hneat : Neat l) (hn : l.length + 2 ≤ 1000000) :
    Calls Try.prog 12 #[v, .agg #[.int .i64 f, .int .i64 t]] w (Hands w B (addR l (f, t))) := by
  cases hok : okB (f, t)
  · have e : addR l (f, t) = l := by unfold addR; rw [if_neg]; rw [okB_not] at hok; exact hok
    rw [e]; exact add_no B v l f t w hown hok
  · have e : addR l (f, t) = addL l (f, t) := by unfold addR; rw [if_pos]; rw [okB_iff] at hok; exact hok
    rw [e]
    obtain ⟨A, c, rfl, hrow⟩ := Own.row hown
    by_cases hl : l = []
    · subst hl; exact add_nil B A c f t w hB hok
    · obtain ⟨b, off, rfl, hb, hc⟩ := hrow hl
      exact add_yes B b off c l f t w hB hb hc hneat hn hok

set_option maxRecDepth 100000 in
set_option maxHeartbeats 1000000 in
theorem all_any (A : Option Addr) (n c : Nat) (l : List Sp) (w : World) (h : Row w A l) (he : n = l.length) (hn : l.length + 2 ≤ 1000000) :
    Calls Try.prog 10 #[.slice A n c] w (Gives w (canon l)) := by
  subst he
  by_cases hl : l = []
  · subst hl
    go_enter Try.func10, Try.ntmps10
    go_wp2_with fail
    refine wp_loop_rounds 1 ?_
    rw [rounds_succ]
    go_wp2_with fail
    go_ret
    exact ⟨_, rfl, World.ownsRow_nil _ _ _ _, start _⟩
  · obtain ⟨b, off, rfl, hb, hc⟩ := h hl
    have HC := hide hc
    clear hc h hl
    go_enter Try.func10, Try.ntmps10
    go_wp2_with fail
    go_loopw [3, 4] (fun v i wr => ∃ k : Nat, k ≤ l.length ∧ i = .int .i64 k ∧ Own wr w.heap.size v (canon (l.take k)) ∧ Below w.heap.size w wr) (fun _ i _ => l.length - (intOf i).toNat)
    case atStart => exact ⟨0, Nat.zero_le _, rfl, World.ownsRow_nil _ _ _ _, start _⟩
    case round =>
      obtain ⟨k, hk, rfl, hown, hbw⟩ := hrel
      by_cases hlt : k < l.length
      · obtain ⟨c1, c2⟩ := HC.out k hlt
        obtain ⟨hc, hf⟩ := old hbw
        have hcl := canon_len (l.take k)
        have htl : (l.take k).length ≤ k := List.length_take_le _ _
        have HNE := hide (canon_neat (l.take k)).1
        have HT := hide (canon_take l k hlt)
        have HO := hide hown
        clear hown
        go_wp2_with fail
        refine (add_any w.heap.size _ (canon (l.take k)) l[k].1 l[k].2 wr HO.out hbw.size HNE.out (by omega)).mono ?_
        rintro e w1 ⟨v1, rfl, hown1, hb1⟩
        go_wp2_with fail
        go_roundw
        case rel => exact ⟨k + 1, by omega, by go_num, by rw [HT.out]; exact hown1, andthen hbw hb1⟩
        case measure => simp [intOf]; omega
      · obtain rfl : k = l.length := by omega
        rw [List.take_length] at hown
        go_wp2_with fail
        go_ret
        exact ⟨_, rfl, hown, hbw⟩

end Go.Proofs.Ytkjkegjekfebpaa.R

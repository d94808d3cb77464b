/- Package lease: New. -/
import Derived.Test.YtphojcnehgdbmaaLeB
namespace Go.Proofs.Ytphojcnehgdbmaa.S2
open Go.RowKit Spn Cl Le

theorem ptr8 (w : World) (y : TypeId) : ∀ r, r < 8 → (w.alloc (.cells #[.pointer none, .pointer none, .pointer none, .pointer none, .pointer none, .pointer none, .pointer none, .pointer none] y)).cell? ⟨w.heap.size, r, none⟩ = some (.pointer none) := fun r h => by
  rw [World.cell?_alloc_at _ _ _ _ rfl]
  rcases (by omega : r = 0 ∨ r = 1 ∨ r = 2 ∨ r = 3 ∨ r = 4 ∨ r = 5 ∨ r = 6 ∨ r = 7) with rfl | rfl | rfl | rfl | rfl | rfl | rfl | rfl <;> rfl
theorem make_new (w : World) (y : TypeId) (f : Rm) : MakeAt (w.alloc (.cells #[.pointer none, .pointer none, .pointer none, .pointer none, .pointer none, .pointer none, .pointer none, .pointer none] y)) w.heap.size w.heap.size (fun _ => 0) 0 f :=
  ⟨by simp, fun r h => by rw [if_neg (Nat.not_lt_zero r)]; exact ptr8 w y r h, fun _ => World.frozen?_alloc_at _ _ _ _ rfl, fun r h => absurd h (Nat.not_lt_zero r), fun r _ h => absurd h (Nat.not_lt_zero r), fun r h => absurd h (Nat.not_lt_zero r)⟩
theorem add_whole : addR [] (0, 52596000) = whole := by decide
theorem beg_yes {k s r : Nat} (h : r % k = s) : begF k s r = whole := if_pos h
theorem beg_no {k s r : Nat} (h : ¬ r % k = s) : begF k s r = [] := if_neg h

set_option maxRecDepth 100000 in
set_option maxHeartbeats 4000000 in
theorem newL_any (site n : Int) (k s : Nat) (w : World) (hk : min (max n 1) 4 = (k : Int)) (hs : min (max site 0) ((k : Int) - 1) = (s : Int)) :
    Calls Try.prog 8 #[.int .i64 site, .int .i64 n] w (NewL w (begF k s)) := by
  have hk0 : (1 : Int) ≤ (k : Int) := by omega
  have hk4 : (k : Int) ≤ 4 := by omega
  have hsub : IntKind.i64.wrap ((k : Int) - 1) = (k : Int) - 1 := IntWalk.i64_in _ (by omega)
  have HS := hide hs
  have HM := hide (make_new w 48 (begF k s))
  have HB := hide (more (start w) (.cells #[.pointer none, .pointer none, .pointer none, .pointer none, .pointer none, .pointer none, .pointer none, .pointer none] 48))
  clear hs
  go_enter Try.func8, Try.ntmps8
  go_wp2_with fail
  refine (lwithin_any n 1 4 w).mono ?_
  rintro e w1 ⟨rfl, rfl⟩
  rw [hk]
  go_wp2_with fail
  refine (lwithin_any site 0 _ w1).mono ?_
  rintro e w2 ⟨rfl, rfl⟩
  rw [HS.out]
  clear hsub hk
  go_wp2_with fail
  go_loopw [15] (fun i wr => ∃ (q : Nat) (bs : Nat → Nat), q ≤ 8 ∧ i = .int .i64 q ∧ Hid (MakeAt wr w2.heap.size w2.heap.size bs q (begF k s)) ∧ Hid (Below w2.heap.size w2 wr)) (fun i _ => 8 - (intOf i).toNat)
  case atStart => exact ⟨0, fun _ => 0, by omega, rfl, hide HM.out, hide HB.out⟩
  case round =>
    obtain ⟨q, bs, hq, rfl, HQ, HBR⟩ := hrel
    by_cases hlt : q < 8
    · have hj0 : (0 : Int) ≤ (q : Int) := by omega
      have hj1 : (q : Int) < 8 := by omega
      have hmod : ((q : Int)).tmod (k : Int) = ((q % k : Nat) : Int) := by rw [Int.tmod_eq_emod_of_nonneg (by omega)]; omega
      have hk00 : ¬ (k : Int) = 0 := by omega
      have hkm : ¬ (k : Int) = -1 := by omega
      go_wp2_with fail
      go_region_with ((go_at_call 24; (with_reducible refine (new_any _).mono ?_); rintro e w3 ⟨b3, rfl, hlo3, hs3, hb3⟩; have hb4 := andthen (start wr).drew hb3; have hx := (HQ.out.keep hb4).cell q hlt; have hf := (HQ.out.keep hb4).froz q))
      all_goals
        have HN := hide (HQ.out.next hlt hb4 hs3 hlo3 HBR.out.size)
        have HB4 := hide (Below.setCell (p := ⟨w2.heap.size, q, none⟩) (HBR.out.trans (hb4.mono HBR.out.size)) (Nat.le_refl w2.heap.size) (.pointer (some ⟨b3, 0, none⟩)))
        have hc : (w3.setCell ⟨w2.heap.size, q, none⟩ (.pointer (some ⟨b3, 0, none⟩))).cell? ⟨w2.heap.size, q, none⟩ = some (.pointer (some ⟨b3, 0, none⟩)) := World.cell?_setCell_same _ _ _ hx
        have HS3 : Hid (SetAt (w3.setCell ⟨w2.heap.size, q, none⟩ (.pointer (some ⟨b3, 0, none⟩))) b3 []) := hide (by
          have := HN.out.set q (Nat.lt_succ_self q)
          rw [putR_same] at this
          simpa using this)
        clear hx hf hs3 hlo3 hb3 hb4
        generalize w3.setCell ⟨w2.heap.size, q, none⟩ (.pointer (some ⟨b3, 0, none⟩)) = V at *
        by_cases hr : q % k = s
        · have hq1 : (((q % k : Nat) : Int) == (s : Int)) = true := by rw [beq_iff_eq]; omega
          have hq2 : ((q % k : Nat) : Int) = (s : Int) := by omega
          go_wp2_with fail
          refine (addSet_any b3 [] 0 52596000 V HS3.out (by simp)).mono ?_
          rintro e w4 ⟨rfl, hs4, hc4⟩
          rw [add_whole] at hs4
          have HN4 := hide (HN.out.step (r := q) (l := whole) (Nat.lt_succ_self q) (by rw [if_pos rfl]; exact hs4) (by rw [if_pos rfl]; exact hc4))
          have HB5 := hide (Chg.below hc4 HB4.out HB4.out.size (by have h := HN.out.low q (Nat.lt_succ_self q); rw [if_pos rfl] at h; exact h))
          have HE : Hid (∀ r, r < q + 1 → putR (putR (begF k s) q []) q whole r = begF k s r) := hide fun r _ => by
            unfold putR; split
            · rename_i e; rw [e]; exact (beg_yes hr).symm
            · rfl
          clear hs4 hc4 hc hq1 hq2
          go_wp2_with fail
          go_roundw
          case rel => exact ⟨q + 1, _, by omega, by go_num, hide (HN4.out.congr HE.out), hide HB5.out⟩
          case measure => simp [intOf]; omega
        · have hq1 : (((q % k : Nat) : Int) == (s : Int)) = false := by rw [beq_eq_false_iff_ne]; omega
          have hq2 : ¬ ((q % k : Nat) : Int) = (s : Int) := by omega
          have HE : Hid (∀ r, r < q + 1 → putR (begF k s) q [] r = begF k s r) := hide fun r _ => by
            unfold putR; split
            · rename_i e; rw [e]; exact (beg_no hr).symm
            · rfl
          go_wp2_with fail
          go_roundw
          case rel => exact ⟨q + 1, _, by omega, by go_num, hide (HN.out.congr HE.out), hide HB4.out⟩
          case measure => simp [intOf]; omega
    · obtain rfl : q = 8 := by omega
      go_wp2_with fail
      go_ret
      exact ⟨_, bs, rfl, Nat.le_refl _, HQ.out.low, HQ.out.lease, HBR.out⟩
end Go.Proofs.Ytphojcnehgdbmaa.S2

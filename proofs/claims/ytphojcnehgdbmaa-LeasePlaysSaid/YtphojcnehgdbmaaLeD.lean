/- Package lease: own. -/
import Derived.Test.YtphojcnehgdbmaaLeB
namespace Go.Proofs.Ytphojcnehgdbmaa.S2
open Go.RowKit Spn Cl Le

set_option maxRecDepth 100000 in
set_option maxHeartbeats 4000000 in
theorem ownR_any (g : Nat) (bs : Nat → Nat) (f : Rm) (w : World) (h : LeaseAt w g bs f) (hn : (outC f).length ≤ 500000) :
    Calls Try.prog 34 #[.pointer (some ⟨g, 0, none⟩)] w (GivesC w (outC f)) := by
  have H := hide h
  have HN := hide hn
  clear h hn
  go_enter Try.func34, Try.ntmps34
  go_wp2_with fail
  go_loopw [3, 7] (fun v i wr => ∃ k : Nat, k ≤ 8 ∧ i = .int .i64 k ∧ Hid (OwnC wr w.heap.size v (outK f k)) ∧ Hid (Below w.heap.size w wr)) (fun _ i _ => 8 - (intOf i).toNat)
  case atStart => exact ⟨0, by omega, rfl, hide (ownC_nil _ _), hide (start _)⟩
  case round =>
    obtain ⟨k, hk, rfl, HO, HB⟩ := hrel
    by_cases hlt : k < 8
    · have hj0 : (0 : Int) ≤ (k : Int) := by omega
      have hj1 : (k : Int) < 8 := by omega
      have HL := hide (H.out.keep HB.out)
      have HNX := hide (outK_succ f k)
      have hc := HL.out.cell k hlt
      have hlf := room_le f k hlt
      have HLN : Hid ((outK f k).length + (f k).length ≤ 1000000) := hide (by have := outK_len f k hk; have := HN.out; omega)
      go_wp2_with fail
      go_quiet (fail)
      have hd : Below wr.heap.size wr (wr.drewN nq) := below_drawn (start wr) nq
      go_wp2_with fail
      refine (setAll_any (bs k) (f k) (wr.drewN nq) ((HL.out.set k hlt).keep hd) (by have := HN.out; omega)).mono ?_
      rintro e w1 ⟨v1, rfl, ho1, hb1⟩
      have hb1 := andthen hd hb1
      obtain ⟨A1, c1, rfl, hr1⟩ := Own.row ho1
      have HX := hide (rowAp_of ho1 hr1 HO.out hd.size)
      have HO1 := hide (OwnC.keep HO.out hb1)
      have HB1 := hide (HB.out.trans (hb1.mono HB.out.size))
      clear ho1 hb1 hr1 hc hd
      go_wp2_with fail
      refine (appendRoom_any w.heap.size _ (outK f k) (k : Int) A1 _ c1 (f k) w1 HO1.out HB1.out.size HX.out rfl HLN.out).mono ?_
      rintro e w2 ⟨v2, rfl, ho2, hg2⟩
      have HO2 := hide ho2
      have HB2 := hide (goes_belowC hg2 HO1.out HB1.out HB1.out.size)
      clear ho2 hg2
      go_wp2_with fail
      go_roundw
      case rel => exact ⟨k + 1, by omega, by go_num, by rw [HNX.out]; exact hide HO2.out, hide HB2.out⟩
      case measure => simp [intOf]; omega
    · obtain rfl : k = 8 := by omega
      rw [outK_8] at HO
      go_wp2_with fail
      go_ret
      exact ⟨_, rfl, HO.out, HB.out⟩
end Go.Proofs.Ytphojcnehgdbmaa.S2

/- Walks of the reference of layer 2: Sub, Lack, Sum. -/
import Derived.Test.YtkjkegjekfebpaaSnS
import Derived.Test.YtkjkegjekfebpaaSpRF
namespace Go.Proofs.Ytkjkegjekfebpaa.R
open Go.RowKit Spn

set_option maxRecDepth 100000 in
set_option maxHeartbeats 1600000 in
theorem sub_any (A : Option Addr) (n c : Nat) (l : List Sp) (x y : Int) (w : World) (h : Row w A l) (he : n = l.length) (hn : l.length ≤ 400000) :
    Calls Try.prog 14 #[.slice A n c, .agg #[.int .i64 x, .int .i64 y]] w (Gives w (subR l (x, y))) := by
  subst he
  have hbx := more (start w) (.cells #[.int .i64 x, .int .i64 y] 25)
  have HROW := hide (h.keep hbx)
  have HBX := hide hbx
  have hx0 : (w.alloc (.cells #[.int .i64 x, .int .i64 y] 25)).cell? ⟨w.heap.size, 0, none⟩ = some (.int .i64 x) := by rw [World.cell?_alloc_at _ _ _ _ rfl]; rfl
  have hx1 : (w.alloc (.cells #[.int .i64 x, .int .i64 y] 25)).cell? ⟨w.heap.size, 1, none⟩ = some (.int .i64 y) := by rw [World.cell?_alloc_at _ _ _ _ rfl]; rfl
  clear h hbx
  go_enter Try.func14, Try.ntmps14
  go_wp2_with fail
  generalize hW : w.alloc (.cells #[.int .i64 x, .int .i64 y] 25) = W at *
  clear hW
  go_loopw [5, 6] (fun v i wr => ∃ k : Nat, k ≤ l.length ∧ i = .int .i64 k ∧ Own wr W.heap.size v (subR (l.take k) (x, y)) ∧ Below W.heap.size W wr) (fun _ i _ => l.length - (intOf i).toNat)
  case atStart => exact ⟨0, Nat.zero_le _, rfl, own_nil _ _, start _⟩
  case round =>
    obtain ⟨k, hk, rfl, hown, hbw⟩ := hrel
    by_cases hlt : k < l.length
    · obtain ⟨b, off, rfl, hb, hcl⟩ := HROW.out (by intro h0; rw [h0] at hlt; exact absurd hlt (Nat.not_lt_zero _))
      obtain ⟨d0, d1⟩ := hcl k hlt
      have HSk := hide (And.intro d0 (And.intro d1 (And.intro hx0 hx1)))
      have hpl := subR_two (l.take k) (x, y)
      have htl : (l.take k).length ≤ k := List.length_take_le _ _
      have hml := minus_len (l[k].1, l[k].2) (x, y)
      rw [minus_ref] at hml
      have HN : Hid (subR (l.take (k + 1)) (x, y) = subR (l.take k) (x, y) ++ minusR (l[k].1, l[k].2) (x, y)) := hide (by rw [← minus_ref]; exact subR_take l (x, y) k hlt)
      have HO := hide hown
      clear hown hcl d0 d1
      go_wp2_with fail
      go_region_held3 (fun w' => w'.cell? ⟨b, off + k * 2, none⟩ = some (.int .i64 l[k].1) ∧ w'.cell? ⟨b, off + k * 2 + 1, none⟩ = some (.int .i64 l[k].2) ∧ w'.cell? ⟨w.heap.size, 0, none⟩ = some (.int .i64 x) ∧ w'.cell? ⟨w.heap.size, 1, none⟩ = some (.int .i64 y)) (first | exact keep4 (by assumption) HSk.out | exact keep4 hbw.drew HSk.out) ((first
        | (go_at_call 40; (with_reducible refine (minus_any l[k].1 l[k].2 x y _).mono ?_); rintro e w2 ⟨v2, rfl, hown2, hb2⟩; have hk2 := hbw.drew.trans (hb2.mono hbw.drew.size); have hO2 := Own.keep HO.out (andthen (start wr).drew hb2))
        | (refine step_own (B := W.heap.size) (l := subR (l.take k) (x, y)) (k := minusR (l[k].1, l[k].2) (x, y)) rfl _ _ rfl rfl rfl hown2 hO2 hk2.size (by omega) (by omega) ?_; intro v3 w3 hown3 hgo3; have hk3 := hgo3.below' hO2 hk2 hk2.size)))
      have HO3 := hide hown3
      have HK3 := hide hk3
      go_wp2_with fail
      go_roundw
      case rel => exact ⟨k + 1, by omega, by go_num, by rw [HN.out]; exact HO3.out, HK3.out⟩
      case measure => simp [intOf]; omega
    · obtain rfl : k = l.length := by omega
      rw [List.take_length] at hown
      have HO := hide hown
      have HBR := hide hbw
      clear hown hbw
      go_wp2_with fail
      go_ret
      exact ⟨_, rfl, Own.low HO.out HBX.out.size, andthen HBX.out HBR.out⟩

set_option maxRecDepth 100000 in
set_option maxHeartbeats 1600000 in
theorem sum_any (A : Option Addr) (n c : Nat) (l : List Sp) (w : World) (h : Row w A l) (he : n = l.length) (hn : l.length ≤ 1000000) :
    Calls Try.prog 22 #[.slice A n c] w fun e w' => e = .returned (.int .i64 (sumL l)) ∧ Below w.heap.size w w' := by
  subst he
  have HROW := hide h
  clear h
  go_enter Try.func22, Try.ntmps22
  go_wp2_with fail
  go_loopw [3, 4] (fun v i wr => ∃ k : Nat, k ≤ l.length ∧ i = .int .i64 k ∧ v = .int .i64 (sumL (l.take k)) ∧ Below w.heap.size w wr) (fun _ i _ => l.length - (intOf i).toNat)
  case atStart => exact ⟨0, Nat.zero_le _, rfl, rfl, start _⟩
  case round =>
    obtain ⟨k, hk, rfl, rfl, hbw⟩ := hrel
    by_cases hlt : k < l.length
    · obtain ⟨b, off, rfl, hb, hcl⟩ := HROW.out (by intro h0; rw [h0] at hlt; exact absurd hlt (Nat.not_lt_zero _))
      obtain ⟨d0, d1⟩ := hcl k hlt
      have e0 := (hbw.cell (p := ⟨b, _, none⟩) hb).trans d0
      have e1 := (hbw.cell (p := ⟨b, _, none⟩) hb).trans d1
      have hs1 := sumL_bd (l.take k)
      have htl : (l.take k).length ≤ k := List.length_take_le _ _
      have hl2 := long_bd (l[k].1, l[k].2)
      have HN : Hid (sumL (l.take (k + 1)) = sumL (l.take k) + long (l[k].1, l[k].2)) := hide (sumL_take l k hlt)
      have g1 : 0 ≤ sumL (l.take k) + long (l[k].1, l[k].2) := by omega
      have g2 : sumL (l.take k) + long (l[k].1, l[k].2) ≤ 9000000000000000000 := by omega
      have HBR := hide hbw
      clear hcl d0 d1 hbw
      go_wp2_with fail
      refine (long_any l[k].1 l[k].2 _).mono ?_
      rintro e w2 ⟨rfl, hb2⟩
      have HB2 := hide hb2
      clear hb2
      go_wp2_with fail
      go_roundw
      case rel => exact ⟨k + 1, by omega, by go_num, by rw [HN.out], andthen HBR.out HB2.out⟩
      case measure => simp [intOf]; omega
    · obtain rfl : k = l.length := by omega
      rw [List.take_length]
      have HBR := hide hbw
      clear hbw
      go_wp2_with fail
      go_ret
      exact ⟨rfl, HBR.out⟩
end Go.Proofs.Ytkjkegjekfebpaa.R

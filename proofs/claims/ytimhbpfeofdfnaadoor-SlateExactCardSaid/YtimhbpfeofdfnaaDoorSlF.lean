/- Walks of package slate: the last end looked for, Rise, Copy, Lines. By hand. -/
import Derived.Test.YtimhbpfeofdfnaaDoorSlE
namespace Go.Proofs.YtimhbpfeofdfnaaDoor
open Go.RowKit Sl

set_option maxRecDepth 100000 in
set_option maxHeartbeats 1600000 in
theorem lastB_any (g : Nat) (t : Tx) (cap : Nat) (w : World) (ht : TextAt w g t cap) (hsz : t.length ≤ 10000000) :
    Calls Tryd.prog 31 #[.slice (some ⟨g, 0, none⟩) t.length cap, .int .u8 10] w (fun e w' => e = .returned (.int .i64 ((keepL t).length - 1 : Int)) ∧ w' = w) := by
  have HT := hide ht
  clear ht
  go_enter Tryd.func31, Tryd.ntmps31
  go_wp2_with fail
  go_loopw [5] (fun i wr => ∃ k : Nat, k ≤ t.length ∧ i = .int .i64 ((k : Int) - 1) ∧ Hid (One (t.drop k)) ∧ wr = w) (fun i _ => (intOf i + 1).toNat)
  case atStart => exact ⟨t.length, Nat.le_refl _, rfl, hide (by intro c hc; simp at hc), rfl⟩
  case round =>
    obtain ⟨k, hk, rfl, hq, rfl⟩ := hrel
    rcases k with _ | k
    · have HK := hide (keep_none t (by have := hq.out; simpa using this))
      have hz : ¬ ((0 : Int) ≤ ((0 : Nat) : Int) - 1) := by omega
      go_wp2_with fail
      go_ret
      rw [HK.out]
      exact ⟨rfl, rfl⟩
    · have hlt : k < t.length := by omega
      have p1 := HT.out.cell k hlt
      have he : (((k + 1 : Nat) : Int) - 1) = (k : Int) := by omega
      rw [he]
      have hi0 : (0 : Int) ≤ (k : Int) := by omega
      have hi1 : (k : Int) < (t.length : Int) := by omega
      by_cases hc : t[k] = 10
      · have HK := hide (keep_last t k hlt hc hq.out)
        rw [hc] at p1
        clear hc he
        go_wp2_with fail
        go_ret
        rw [HK.out]
        exact ⟨ret_int (by omega), rfl⟩
      · have HO := hide (show One (t.drop k) by
          rw [List.drop_eq_getElem_cons hlt]
          intro x hx
          rcases List.mem_cons.1 hx with rfl | hx
          · exact hc
          · exact hq.out x hx)
        have hne : (((t[k]).toNat : Int) == 10) = false := by
          rw [beq_eq_false_iff_ne]
          intro e
          exact hc (UInt8.toNat_inj.1 (show (t[k]).toNat = 10 by omega))
        clear hc he
        go_wp2_with fail
        go_roundw
        case rel => exact ⟨k, by omega, rfl, HO, trivial⟩
        case measure => simp [intOf]
theorem last_any (g : Nat) (t : Tx) (cap : Nat) (w : World) (ht : TextAt w g t cap) (hsz : t.length ≤ 10000000) :
    Calls Tryd.prog 26 #[.slice (some ⟨g, 0, none⟩) t.length cap, .int .u8 10] w (fun e w' => e = .returned (.int .i64 ((keepL t).length - 1 : Int)) ∧ w' = w) := by
  have HC := hide (lastB_any g t cap w ht hsz)
  clear ht hsz
  go_enter Tryd.func26, Tryd.ntmps26
  go_wp2_with fail
  refine HC.out.mono ?_
  rintro e w' ⟨rfl, rfl⟩
  go_wp2_with fail
  go_ret
  exact ⟨rfl, rfl⟩
end Go.Proofs.YtimhbpfeofdfnaaDoor

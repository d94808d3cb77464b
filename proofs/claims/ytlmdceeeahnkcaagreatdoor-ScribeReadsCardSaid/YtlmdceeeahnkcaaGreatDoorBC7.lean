/- Package claim: Neat. Written by recipes/le0.py. -/
import Derived.Test.YtlmdceeeahnkcaaGreatDoorBC2
import Derived.Test.YtlmdceeeahnkcaaGreatDoorBC3
import Derived.Test.YtlmdceeeahnkcaaGreatDoorBM2
namespace Go.Proofs.YtlmdceeeahnkcaaGreatDoor.S2
open Go.RowKit Spn Cl

theorem outC_le (f : Nat → List Sp) (N : Nat) (h : ∀ r, r < 8 → (f r).length ≤ N) : (outC f).length ≤ 8 * N := by
  have := Le.tot_le (f := f) (g := fun _ => []) (h := fun _ => []) N fun r hr => by have := h r hr; simpa using this
  have e : (outC fun _ => []).length = 0 := rfl
  omega
theorem neatF_len (l : List C) (r : Nat) : (neatF l r).length ≤ l.length := Nat.le_trans (canon_lenC _) (spans_len l r)
set_option maxHeartbeats 1000000 in
theorem Neat_any (A : Option Addr) (n c : Nat) (l : List C) (w : World) (h : RowC w A l) (he : n = l.length) (hn : l.length ≤ 40000) :
    Calls Tryz.prog 59 #[.slice A n c] w (GivesC w (neatC l)) := by
  have HR := hide h
  have HE := hide he
  have HB1 := hide (outC_le (neatF l) l.length fun r _ => neatF_len l r)
  clear h he
  go_enter Tryz.func59, Tryz.ntmps59
  go_wp2_with fail
  refine (neat_any A n c l _ HR.out HE.out (by omega)).mono ?_
  rintro e w1 ⟨vs, rfl, ho, hb1⟩
  have HF := hide (famR_of ho)
  have HB := hide hb1
  clear ho hb1
  go_wp2_with fail
  refine (claims_any vs (neatF l) w1 HF.out (by have := HB1.out; omega)).mono ?_
  rintro e w2 ⟨v, rfl, ho2, hb2⟩
  have HO := hide (ho2.low HB.out.size)
  have HB2 := hide (andthen HB.out hb2)
  clear ho2 hb2
  go_wp2_with fail
  go_ret
  exact ⟨v, rfl, HO.out, HB2.out⟩
end Go.Proofs.YtlmdceeeahnkcaaGreatDoor.S2

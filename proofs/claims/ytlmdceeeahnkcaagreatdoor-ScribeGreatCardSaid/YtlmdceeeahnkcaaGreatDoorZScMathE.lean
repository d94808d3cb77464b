/- Plain facts of lines: the greatest deed that may be. No program is named here. -/
import Derived.Test.YtlmdceeeahnkcaaGreatDoorZQ1
namespace Go.Proofs.YtlmdceeeahnkcaaGreatDoor.Sc
open Go.Proofs.YtlmdceeeahnkcaaGreatDoor Rul Rt Cl De

def clG (b : Int) (i : Nat) : C := (7, (b + 20 * (i : Int), b + 20 * (i : Int) + 19))
def gK (b : Int) (k : Nat) : List C := (List.range k).map (clG b)
theorem gK_len (b : Int) (k : Nat) : (gK b k).length = k := by simp [gK]
theorem gK_succ (b : Int) (k : Nat) : gK b (k + 1) = gK b k ++ [clG b k] := by unfold gK; rw [List.range_succ, List.map_append]; rfl
theorem g0_157 : neatC (gK 0 157) = gK 0 157 := by decide +kernel
theorem g0_158 : neatC (gK 0 158) = gK 0 158 := by decide +kernel
theorem g0_159 : neatC (gK 0 159) = gK 0 159 := by decide +kernel
theorem g0_160 : neatC (gK 0 160) = gK 0 160 := by decide +kernel
theorem g1_157 : neatC (gK 52592800 157) = gK 52592800 157 := by decide +kernel
theorem g1_158 : neatC (gK 52592800 158) = gK 52592800 158 := by decide +kernel
theorem g1_159 : neatC (gK 52592800 159) = gK 52592800 159 := by decide +kernel
theorem g1_160 : neatC (gK 52592800 160) = gK 52592800 160 := by decide +kernel
theorem gK_neat (b : Int) (k : Nat) (hb : b = 0 ∨ b = 52592800) (hk : k = 157 ∨ k = 158 ∨ k = 159 ∨ k = 160) : neatB (gK b k) = true := by
  have h : neatC (gK b k) = gK b k := by
    rcases hb with rfl | rfl <;> rcases hk with rfl | rfl | rfl | rfl
    · exact g0_157
    · exact g0_158
    · exact g0_159
    · exact g0_160
    · exact g1_157
    · exact g1_158
    · exact g1_159
    · exact g1_160
  unfold neatB
  rw [gK_len, h, decide_eq_true (by omega), decide_eq_true (by omega), decide_eq_true rfl]; rfl
def dGr (l : List C) : D := ⟨6, (0, 0), e0, l, 3, 1000000, b0⟩
theorem dGr_is {l : List C} (h : neatB l = true) : isD (dGr l) = true := by
  have hb : bare (dGr l) = dGr l := by unfold bare dGr; simp
  unfold isD
  rw [hb, sameD_self, Bool.and_true]
  unfold De.ask dGr
  rw [if_neg (show ¬ ((6 : Int) = 1 ∨ (6 : Int) = 2) by decide), if_neg (show ¬ ((6 : Int) = 3 ∨ (6 : Int) = 4) by decide), if_pos (Or.inr rfl)]
  simp only [h, Bool.true_and]
  decide
end Go.Proofs.YtlmdceeeahnkcaaGreatDoor.Sc

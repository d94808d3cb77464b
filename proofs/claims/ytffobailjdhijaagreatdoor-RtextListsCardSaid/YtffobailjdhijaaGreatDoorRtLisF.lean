/- The texts that RtextLists asks of, closed facts. -/
import Derived.Test.YtffobailjdhijaaGreatDoorRtN
namespace Go.Proofs.YtffobailjdhijaaGreatDoor
open Go.RowKit Rul Rt Go.Sort

def lisT (x y : Int) : Tx := (([66, 89, 77, 79, 78, 84, 72, 68, 65, 89, 61] ++ Lib.itoa x) ++ [44]) ++ Lib.itoa y ++ [59, 70, 82, 69, 81, 61, 77, 79, 78, 84, 72, 76, 89]
def lisOk (x y : Int) : Bool := decide (x = 0) || decide (y = 0) || decide (y < x) || (if x = y then decide (ansC unU (lisT x y) = none) else decide (ansC unU (lisT x y) = some ⟨3, 1, 0, -1, [], [x, y], []⟩) && decide (ansC unU (lisT y x) = some ⟨3, 1, 0, -1, [], [x, y], []⟩))
theorem lis_a : ((List.range 30).all fun i => (List.range 30).all fun j => lisOk ((i : Int) - 30) ((j : Int) - 30)) = true := by decide +kernel
theorem lis_b : ((List.range 31).all fun i => (List.range 31).all fun j => lisOk ((i : Int) - 30) (j : Int)) = true := by decide +kernel
theorem lis_d : ((List.range 31).all fun i => (List.range 31).all fun j => lisOk (i : Int) (j : Int)) = true := by decide +kernel
theorem lis_in (x y : Int) (hx : -30 ≤ x ∧ x ≤ 30) (hy : -30 ≤ y ∧ y ≤ 30) : lisOk x y = true := by
  by_cases h : y < x
  · unfold lisOk; rw [decide_eq_true h]; simp
  · by_cases h2 : x < 0
    · by_cases h3 : y < 0
      · have k := List.all_eq_true.1 (List.all_eq_true.1 lis_a (x + 30).toNat (List.mem_range.2 (by omega))) (y + 30).toNat (List.mem_range.2 (by omega))
        rw [show (((x + 30).toNat : Nat) : Int) - 30 = x by omega, show (((y + 30).toNat : Nat) : Int) - 30 = y by omega] at k
        exact k
      · have k := List.all_eq_true.1 (List.all_eq_true.1 lis_b (x + 30).toNat (List.mem_range.2 (by omega))) y.toNat (List.mem_range.2 (by omega))
        rw [show (((x + 30).toNat : Nat) : Int) - 30 = x by omega, show ((y.toNat : Nat) : Int) = y by omega] at k
        exact k
    · have k := List.all_eq_true.1 (List.all_eq_true.1 lis_d x.toNat (List.mem_range.2 (by omega))) y.toNat (List.mem_range.2 (by omega))
      rw [show ((x.toNat : Nat) : Int) = x by omega, show ((y.toNat : Nat) : Int) = y by omega] at k
      exact k
theorem lis_len : ((List.range 61).all fun i => decide ((Lib.itoa ((i : Int) - 30)).length ≤ 3)) = true := by decide +kernel
theorem lis_at (x y : Int) (hx : -30 ≤ x ∧ x ≤ 30) (hy : -30 ≤ y ∧ y ≤ 30) : lisOk x y = true ∧ (Lib.itoa x).length ≤ 3 := by
  have h2 := List.all_eq_true.1 lis_len (x + 30).toNat (List.mem_range.2 (by omega))
  have e1 : (((x + 30).toNat : Nat) : Int) - 30 = x := by omega
  rw [e1] at h2
  exact ⟨lis_in x y hx hy, of_decide_eq_true h2⟩

end Go.Proofs.YtffobailjdhijaaGreatDoor

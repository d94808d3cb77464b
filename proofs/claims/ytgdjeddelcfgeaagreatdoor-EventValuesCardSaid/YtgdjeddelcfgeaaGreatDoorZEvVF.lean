/- Closed facts that EventValues asks. -/
import Derived.Test.YtgdjeddelcfgeaaGreatDoorZW13
import Derived.Test.YtgdjeddelcfgeaaGreatDoorZM3
namespace Go.Proofs.YtgdjeddelcfgeaaGreatDoor
open Go.RowKit Rul Rt Go.Sort

def badL : List Tx := [[85, 73, 68, 58], [85, 73, 68, 58, 97, 95, 98], [68, 84, 83, 84, 65, 82, 84, 58, 50, 48, 50, 52, 48, 50, 51, 48, 84, 48, 48, 48, 48, 48, 48], [68, 84, 83, 84, 65, 82, 84, 58, 50, 48, 50, 52], [68, 85, 82, 65, 84, 73, 79, 78, 58, 80, 84, 48, 77], [68, 85, 82, 65, 84, 73, 79, 78, 58, 80, 84, 48, 49, 48, 77], [68, 85, 82, 65, 84, 73, 79, 78, 58, 54, 48], [68, 85, 82, 65, 84, 73, 79, 78, 58, 80, 84, 49, 48, 48, 56, 49, 77], [88, 45, 82, 79, 79, 77, 83, 58], [88, 45, 82, 79, 79, 77, 83, 58, 56], [88, 45, 82, 79, 79, 77, 83, 58, 49, 44, 49], [88, 45, 82, 79, 79, 77, 83, 58, 45, 49], [82, 82, 85, 76, 69, 58, 70, 82, 69, 81, 61, 88], [69, 88, 68, 65, 84, 69, 58, 120], [83, 85, 77, 77, 65, 82, 89, 58, 97, 44, 98], [78, 79, 67, 79, 76, 79, 78]]
theorem badL_len : badL.length = 16 := by decide
theorem badL_small : ∀ t ∈ badL, t.length ≤ 30 := by decide
theorem badL_cell (w : World) (X : Nat) (hX : w.heap.size = X) : ∀ (i : Nat) (hi : i < badL.length), (w.alloc (.cells #[.string ⟨#[85, 73, 68, 58]⟩, .string ⟨#[85, 73, 68, 58, 97, 95, 98]⟩, .string ⟨#[68, 84, 83, 84, 65, 82, 84, 58, 50, 48, 50, 52, 48, 50, 51, 48, 84, 48, 48, 48, 48, 48, 48]⟩, .string ⟨#[68, 84, 83, 84, 65, 82, 84, 58, 50, 48, 50, 52]⟩, .string ⟨#[68, 85, 82, 65, 84, 73, 79, 78, 58, 80, 84, 48, 77]⟩, .string ⟨#[68, 85, 82, 65, 84, 73, 79, 78, 58, 80, 84, 48, 49, 48, 77]⟩, .string ⟨#[68, 85, 82, 65, 84, 73, 79, 78, 58, 54, 48]⟩, .string ⟨#[68, 85, 82, 65, 84, 73, 79, 78, 58, 80, 84, 49, 48, 48, 56, 49, 77]⟩, .string ⟨#[88, 45, 82, 79, 79, 77, 83, 58]⟩, .string ⟨#[88, 45, 82, 79, 79, 77, 83, 58, 56]⟩, .string ⟨#[88, 45, 82, 79, 79, 77, 83, 58, 49, 44, 49]⟩, .string ⟨#[88, 45, 82, 79, 79, 77, 83, 58, 45, 49]⟩, .string ⟨#[82, 82, 85, 76, 69, 58, 70, 82, 69, 81, 61, 88]⟩, .string ⟨#[69, 88, 68, 65, 84, 69, 58, 120]⟩, .string ⟨#[83, 85, 77, 77, 65, 82, 89, 58, 97, 44, 98]⟩, .string ⟨#[78, 79, 67, 79, 76, 79, 78]⟩] 44)).cell? ⟨X, i, none⟩ = some (.string (str badL[i])) := by
  subst hX
  intro i hi
  have h16 : i < 16 := by rw [badL_len] at hi; exact hi
  rw [World.cell?_alloc_at _ _ _ _ rfl]
  rcases i with _ | _ | _ | _ | _ | _ | _ | _ | _ | _ | _ | _ | _ | _ | _ | _ | i
  all_goals first | rfl | omega
/-- the event that EventValues is about. -/
def valE : Ev.E := ⟨[97], [116], 1500, 60, [1], ⟨1, 1, 3, -1, [], [], []⟩, [1500]⟩
def valL : List Tx := Ev.linesE unU valE
theorem val_lines : valL.length = 9 ∧ valL.all (fun p => decide (p.length ≤ 100)) = true := by decide +kernel
theorem val_read : okR (Ev.readE unU valL) valE 9 = true := by decide +kernel
def valOk (p : List Tx × Int) : Bool := decide (0 < p.2) && (decide (p.1.length ≤ 20) && (p.1.all (fun q => decide (q.length ≤ 100)) && noR (Ev.readE unU p.1) p.2.toNat))
theorem val_all : badL.all (fun t => (List.range 8).all fun a => valOk (Ev.vEnd t a valL)) = true := by decide +kernel
theorem val_at (t : Tx) (ht : t ∈ badL) (a : Nat) (ha : a < 8) : valOk (Ev.vEnd t a valL) = true :=
  List.all_eq_true.1 (List.all_eq_true.1 val_all t ht) a (List.mem_range.2 ha)
theorem valOk_is {p : List Tx × Int} (h : valOk p = true) : 0 < p.2 ∧ p.1.length ≤ 20 ∧ (∀ q ∈ p.1, q.length ≤ 100) ∧ Ev.readE unU p.1 = (none, p.2.toNat) := by
  unfold valOk at h
  simp only [Bool.and_eq_true, decide_eq_true_eq] at h
  exact ⟨h.1, h.2.1, fun q hq => by simpa using List.all_eq_true.1 h.2.2.1 q hq, noR_is h.2.2.2⟩
theorem val_small : ∀ p ∈ valL, p.length ≤ 100 := fun p hp => by simpa using List.all_eq_true.1 val_lines.2 p hp

end Go.Proofs.YtgdjeddelcfgeaaGreatDoor

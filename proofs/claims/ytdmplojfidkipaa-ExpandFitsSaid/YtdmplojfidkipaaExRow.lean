/- A []int argument opened. -/
import Derived.Test.YtdmplojfidkipaaRuRow
namespace Go.Proofs.Ytdmplojfidkipaa
open Go.ChangeShapes Go.WideShapes Go.ChangeAt Go.RowKit Go.Joins Rul

section
variable {H : Type} {enc : TypeId × Value → H}
theorem open_nums_arg {W : World} {A : Option Addr} {n c base : Nat} {sp : Nat → Bool} {hd : Bool} {d : DataW H} {p : List MemPlace} (h : DataW.Trod enc Try.prog W base sp hd 23 (.slice A n c) d p) :
    ∃ l : List Int, n = l.length ∧ l.length ≤ maxLen ∧ RowI W A l := by
  obtain ⟨fuel, hf⟩ := h
  obtain ⟨A2, n2, c2, l, hcs, hn, hl, hr⟩ := open_nums hf
  simp [Value.cells] at hcs
  obtain ⟨rfl, rfl, rfl⟩ := hcs
  exact ⟨l, hn, hl, hr⟩
end

end Go.Proofs.Ytdmplojfidkipaa

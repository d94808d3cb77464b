/- Walk of the reference of layer 5: Of. Written by recipes/da6.py. -/
import Derived.Test.YtdmplojfidkipaaDaF
import Derived.Test.YtdmplojfidkipaaDaG
namespace Go.Proofs.Ytdmplojfidkipaa.R
open Go.RowKit Rul Go.Sort

theorem filt_out (p : Int → Bool) (a b : Int) (h : a ≤ b) (hp : p b = false) : (upto a (b + 1)).filter p = (upto a b).filter p := by
  rw [filter_upto p a b h, hp]; simp
theorem filt_in (p : Int → Bool) (a b : Int) (h : a ≤ b) (hp : p b = true) : (upto a (b + 1)).filter p = (upto a b).filter p ++ [b] := by
  rw [filter_upto p a b h, hp]; simp
theorem daysL_ref (r : Rul.T) (s k : Int) (h : perK r s k = true) : daysL r s k = (upto (perA r s k) (perB r s k)).filter (refB r s) := by
  obtain ⟨⟨h1, h2⟩, hr, _, _⟩ := (perK_iff _ _ _).1 h
  rw [daysL_yes r s k h, show ofB r s = refB r s from funext fun d => (refB_eq r s d hr h1 h2).symm]
end Go.Proofs.Ytdmplojfidkipaa.R

/- DaysTell walked. Written by recipes/da8.py. -/
import Derived.Test.YtdmplojfidkipaaDaH
import Derived.Test.YtdmplojfidkipaaDaK
namespace Go.Proofs.Ytdmplojfidkipaa
open Go.RowKit Rul Go.Sort

theorem rows_lies5 {w : World} {D M Y : Option Addr} {dn mn yn : Nat} {ds : List Wd} {ms ys : List Int} (h : (dn = ds.length ∧ ds.length ≤ maxLen ∧ RowD w D ds) ∧ (mn = ms.length ∧ ms.length ≤ maxLen ∧ RowI w M ms) ∧ (yn = ys.length ∧ ys.length ≤ maxLen ∧ RowI w Y ys)) (k : fewB dn mn yn = true) : Lies w D dn M mn Y yn ds ms ys := by
  obtain ⟨⟨h1, _, h2⟩, ⟨h3, _, h4⟩, h5, _, h6⟩ := h
  rw [fewB_iff] at k
  exact ⟨h2, h1, by omega, h4, h3, by omega, h6, h5, by omega⟩
end Go.Proofs.Ytdmplojfidkipaa

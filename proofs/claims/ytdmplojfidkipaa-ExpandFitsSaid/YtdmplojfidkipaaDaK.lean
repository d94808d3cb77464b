/- Walks of the statements of layer 5: fewRule, known, same. Written by recipes/da7.py. -/
import Derived.Test.YtdmplojfidkipaaDaF
import Derived.Test.YtdmplojfidkipaaRuW
namespace Go.Proofs.Ytdmplojfidkipaa
open Go.RowKit Rul Go.Sort

theorem k_days : daysL ⟨2, 1, 0, -1, [(0, 1)], [], []⟩ 10 1 = [17] := by decide +kernel
theorem k_a : perA ⟨2, 1, 0, -1, [(0, 1)], [], []⟩ 10 1 = 16 := by decide +kernel
theorem k_b : perB ⟨2, 1, 0, -1, [(0, 1)], [], []⟩ 10 1 = 23 := by decide +kernel
theorem k_q : perK ⟨2, 1, 0, -1, [(0, 1)], [], []⟩ 10 1 = true := by decide +kernel
theorem n_a : perA ⟨2, 1, 0, -1, [(0, 1)], [], []⟩ 10 (-1) = 0 := by decide +kernel
theorem n_b : perB ⟨2, 1, 0, -1, [(0, 1)], [], []⟩ 10 (-1) = 0 := by decide +kernel
theorem n_q : perK ⟨2, 1, 0, -1, [(0, 1)], [], []⟩ 10 (-1) = false := by decide +kernel
theorem eq_end (l k : List Int) (hl : l.length = k.length) (h : ∀ i (h1 : i < l.length) (h2 : i < k.length), l[i] = k[i]) : l = k := List.ext_getElem hl h
end Go.Proofs.Ytdmplojfidkipaa

/- Walks of the reference of layer 5: first, Period. Written by recipes/da5.py. -/
import Derived.Test.YtdmplojfidkipaaDaB
import Derived.Test.YtdmplojfidkipaaRuV
namespace Go.Proofs.Ytdmplojfidkipaa.R
open Go.RowKit Rul Go.Sort

theorem pA_far (fr s n : Int) (h1 : 1 ≤ fr) (h2 : fr ≤ 4) (s0 : 0 ≤ s) (s1 : s < 36525) (h : 36525 ≤ n) : 36525 ≤ pA fr s n := by
  have m := mS s s0 s1
  have w := Cal.wday_bd s
  rcases fr_cases fr h1 h2 with rfl | rfl | rfl | rfl
  · rw [pA_1]; omega
  · rw [pA_2]; omega
  · rw [pA_3, fst_out _ (by omega)]; omega
  · rw [pA_4, fst_out _ (by omega)]; omega
theorem ev_mul2 (ev k : Int) (h1 : 1 ≤ ev) (h2 : ev ≤ 100) (k0 : 0 ≤ k) (k1 : k ≤ 36525) : 0 ≤ ev * k ∧ ev * k ≤ 3652500 ∧ k ≤ ev * k := by
  have a : 0 ≤ ev * k := Int.mul_nonneg (by omega) k0
  have b : ev * k ≤ 100 * k := Int.mul_le_mul_of_nonneg_right h2 k0
  have c : 1 * k ≤ ev * k := Int.mul_le_mul_of_nonneg_right h1 k0
  omega

end Go.Proofs.Ytdmplojfidkipaa.R

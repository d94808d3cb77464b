/- DaysMonths walked. Written by recipes/da9.py. -/
import Derived.Test.YtdmplojfidkipaaDaG
import Derived.Test.YtdmplojfidkipaaDaK
namespace Go.Proofs.Ytdmplojfidkipaa
open Go.RowKit Rul Go.Sort

theorem rec_plain (fr ev : Int) (h1 : 1 ≤ fr) (h2 : fr ≤ 4) (h3 : 1 ≤ ev) (h4 : ev ≤ 100) : recB ⟨fr, ev, 0, -1, [], [], []⟩ = true := by
  have a : rngB fr ev 0 (-1) = true := by
    unfold rngB; rw [(btw_iff _ _ _).2 ⟨h1, h2⟩, (btw_iff _ _ _).2 ⟨h3, h4⟩]; decide
  rw [recB_is, a]
  rcases fr_cases fr h1 h2 with rfl | rfl | rfl | rfl <;> decide
theorem plain_K (fr ev s k : Int) (h1 : 1 ≤ fr) (h2 : fr ≤ 4) (h3 : 1 ≤ ev) (h4 : ev ≤ 100) (s0 : 0 ≤ s) (s1 : s < 36525) (k0 : 0 ≤ k) (k1 : k < 36525) (h : pA fr s (ev * k) < 36525) : perK ⟨fr, ev, 0, -1, [], [], []⟩ s k = true :=
  (perK_iff _ _ _).2 ⟨⟨s0, s1⟩, rec_plain fr ev h1 h2 h3 h4, ⟨k0, k1⟩, h⟩
theorem per_at (r : Rul.T) (s k a b : Int) (h : perK r s k = true) (ha : pA r.fr s (r.ev * k) = a) (hb : pB r.fr s (r.ev * k) = b) (h0 : 0 ≤ a) (h1 : b ≤ 36525) : perA r s k = a ∧ perB r s k = b ∧ perK r s k = true := by
  unfold perA perB
  rw [if_pos h, if_pos h, ha, hb]
  exact ⟨by omega, by omega, h⟩
end Go.Proofs.Ytdmplojfidkipaa

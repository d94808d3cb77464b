/- DaysPeriods: plain facts of periods that follow one another. Written by recipes/da10.py. -/
import Derived.Test.YtdmplojfidkipaaDaH
import Derived.Test.YtdmplojfidkipaaDaK
import Derived.Test.YtdmplojfidkipaaDaTell
namespace Go.Proofs.Ytdmplojfidkipaa
open Go.RowKit Rul Go.Sort

theorem per_more (r : Rul.T) (s k : Int) (k0 : 0 ≤ k) (h : perK r s (k + 1) = true) : perK r s k = true ∧ perB r s k ≤ perA r s (k + 1) := by
  obtain ⟨hs, hr, hk, ha⟩ := (perK_iff r s (k + 1)).1 h
  have f := recB_fr r hr
  have e := recB_ev r hr
  have n := ev_mul r.ev k e.1 e.2 k0 (by omega)
  rw [show r.ev * (k + 1) = r.ev * k + r.ev by rw [Int.mul_add, Int.mul_one]] at ha
  have m1 := pA_mono r.fr s (r.ev * k) (r.ev * k + r.ev) f.1 f.2 hs.1 hs.2 n.1 (by omega)
  have m2 := pA_mono r.fr s (r.ev * k + 1) (r.ev * k + r.ev) f.1 f.2 hs.1 hs.2 (by omega) (by omega)
  rw [← pB_next r.fr s _ f.1 f.2] at m2
  have hK : perK r s k = true := (perK_iff r s k).2 ⟨hs, hr, ⟨k0, by omega⟩, by omega⟩
  refine ⟨hK, ?_⟩
  unfold perA perB
  rw [if_pos h, if_pos hK, show r.ev * (k + 1) = r.ev * k + r.ev by rw [Int.mul_add, Int.mul_one]]
  omega
theorem per_next (r : Rul.T) (s k : Int) (he : r.ev = 1) (h : perK r s k = true) (hb : perB r s k < 36525) (hk : k + 1 < 36525) : perK r s (k + 1) = true ∧ perA r s (k + 1) = perB r s k := by
  obtain ⟨hs, hr, hk0, ha⟩ := (perK_iff r s k).1 h
  have f := recB_fr r hr
  have e := recB_ev r hr
  have n := ev_mul r.ev k e.1 e.2 hk0.1 (by omega)
  have bd := pB_bd r.fr s (r.ev * k) f.1 f.2 hs.1 hs.2 n.1 ha
  have hbb := hb
  unfold perB at hbb
  rw [if_pos h] at hbb
  have hn : pB r.fr s (r.ev * k) = pA r.fr s (r.ev * (k + 1)) := by rw [pB_next r.fr s _ f.1 f.2]; congr 1; rw [Int.mul_add, Int.mul_one, he]
  have hK : perK r s (k + 1) = true := (perK_iff r s (k + 1)).2 ⟨hs, hr, ⟨by omega, hk⟩, by rw [← hn]; omega⟩
  refine ⟨hK, ?_⟩
  unfold perA perB
  rw [if_pos hK, if_pos h, ← hn]
  omega
theorem fst_le_s (s : Int) (s0 : 0 ≤ s) (s1 : s < 36525) : fst (12 * (Cal.yOf s - 2000) + (Cal.mOf s - 1)) ≤ s := by
  have yb := Cal.yOf_bd s s0 s1
  have mb := Cal.mOf_bd s
  have d := Cal.dOf_bd s s0 s1
  have e := Cal.of_num s
  unfold fst
  rw [show 2000 + (12 * (Cal.yOf s - 2000) + (Cal.mOf s - 1)) / 12 = Cal.yOf s by omega, show (12 * (Cal.yOf s - 2000) + (Cal.mOf s - 1)) % 12 + 1 = Cal.mOf s by omega, fE_in _ _ yb.2]
  unfold Cal.num at e ⊢
  omega
theorem per_0 (r : Rul.T) (s : Int) (hr : recB r = true) (s0 : 0 ≤ s) (s1 : s < 36525) : perK r s 0 = true ∧ perA r s 0 ≤ s := by
  have f := recB_fr r hr
  have w := Cal.wday_bd s
  have l := fst_le_s s s0 s1
  have m := mS s s0 s1
  have h : pA r.fr s 0 ≤ s := by
    rcases fr_cases r.fr f.1 f.2 with e | e | e | e <;> rw [e]
    · rw [pA_1]; omega
    · rw [pA_2]; omega
    · rw [pA_3, Int.add_zero]; exact l
    · rw [pA_4, Int.add_zero]
      have mb := Cal.mOf_bd s
      exact Int.le_trans (fst_mono _ _ (by omega) (by omega)) l
  have hK : perK r s 0 = true := (perK_iff r s 0).2 ⟨⟨s0, s1⟩, hr, ⟨by omega, by omega⟩, by rw [Int.mul_zero]; omega⟩
  refine ⟨hK, ?_⟩
  unfold perA
  rw [if_pos hK, Int.mul_zero]
  omega
theorem daysL_in (r : Rul.T) (s k : Int) (i : Nat) (h : i < (daysL r s k).length) : perA r s k ≤ (daysL r s k)[i] ∧ (daysL r s k)[i] < perB r s k ∧ fitsB r (daysL r s k)[i] = true := by
  cases hK : perK r s k
  · have := h; rw [daysL_no r s k hK] at this; exact absurd this (Nat.not_lt_zero _)
  · have hm : (daysL r s k)[i] ∈ daysL r s k := List.getElem_mem _
    generalize (daysL r s k)[i] = d at hm ⊢
    rw [daysL_yes r s k hK, List.mem_filter, upto_mem] at hm
    obtain ⟨⟨h1, h2⟩, h3⟩ := hm
    unfold ofB at h3
    rw [Bool.and_eq_true] at h3
    exact ⟨h1, h2, h3.2⟩
theorem daysL_up (r : Rul.T) (s k : Int) (i : Nat) (h : i + 1 < (daysL r s k).length) : (daysL r s k)[i]'(Nat.lt_of_succ_lt h) < (daysL r s k)[i + 1] := by
  have hp : (daysL r s k).Pairwise (· < ·) := by
    cases hK : perK r s k
    · rw [daysL_no r s k hK]; exact List.Pairwise.nil
    · rw [daysL_yes r s k hK]; exact (upto_rise _ _).filter _
  exact List.pairwise_iff_getElem.1 hp i (i + 1) (Nat.lt_of_succ_lt h) h (Nat.lt_succ_self _)


end Go.Proofs.Ytdmplojfidkipaa

/- Put together: DaPerM DaMonths DaSameM. -/
import Derived.Test.YtdmplojfidkipaaDaH
import Derived.Test.YtdmplojfidkipaaDaK
import Derived.Test.YtdmplojfidkipaaDaTell
import Derived.Test.YtdmplojfidkipaaDaG

/- DaysPeriods: plain facts of periods that follow one another. Written by recipes/da10.py. -/
namespace Go.Proofs.Ytdmplojfidkipaa
open Go.RowKit Rul Go.Sort

theorem per_more (r : Rul.T) (s k : Int) (k0 : 0 ≤ k) (h : perK r s (k + 1) = true) : perK r s k = true ∧ perB r s k ≤ perA r s (k + 1) := by
  obtain ⟨hs, hr, hk, ha⟩ := (perK_iff r s (k + 1)).1 h
  have f := recB_fr r hr
  have e := recB_ev r hr
  have n := ev_mul r.ev k e.1 e.2 k0 (by omega)
  rw [show r.ev * (k + 1) = r.ev * k + r.ev by rw [Int.mul_add, Int.mul_one]] at ha
  have m1 := pA_mono r.fr s (r.ev * k) (r.ev * k + r.ev) f.1 f.2 hs.1 hs.2 n.1 (by omega)
  have m2 := pA_mono r.fr s (r.ev * k + 1) (r.ev * k + r.ev) f.1 f.2 hs.1 hs.2 (by omega) (by omega)
  rw [← pB_next r.fr s _ f.1 f.2] at m2
  have hK : perK r s k = true := (perK_iff r s k).2 ⟨hs, hr, ⟨k0, by omega⟩, by omega⟩
  refine ⟨hK, ?_⟩
  unfold perA perB
  rw [if_pos h, if_pos hK, show r.ev * (k + 1) = r.ev * k + r.ev by rw [Int.mul_add, Int.mul_one]]
  omega
theorem per_next (r : Rul.T) (s k : Int) (he : r.ev = 1) (h : perK r s k = true) (hb : perB r s k < 36525) (hk : k + 1 < 36525) : perK r s (k + 1) = true ∧ perA r s (k + 1) = perB r s k := by
  obtain ⟨hs, hr, hk0, ha⟩ := (perK_iff r s k).1 h
  have f := recB_fr r hr
  have e := recB_ev r hr
  have n := ev_mul r.ev k e.1 e.2 hk0.1 (by omega)
  have bd := pB_bd r.fr s (r.ev * k) f.1 f.2 hs.1 hs.2 n.1 ha
  have hbb := hb
  unfold perB at hbb
  rw [if_pos h] at hbb
  have hn : pB r.fr s (r.ev * k) = pA r.fr s (r.ev * (k + 1)) := by rw [pB_next r.fr s _ f.1 f.2]; congr 1; rw [Int.mul_add, Int.mul_one, he]
  have hK : perK r s (k + 1) = true := (perK_iff r s (k + 1)).2 ⟨hs, hr, ⟨by omega, hk⟩, by rw [← hn]; omega⟩
  refine ⟨hK, ?_⟩
  unfold perA perB
  rw [if_pos hK, if_pos h, ← hn]
  omega
theorem fst_le_s (s : Int) (s0 : 0 ≤ s) (s1 : s < 36525) : fst (12 * (Cal.yOf s - 2000) + (Cal.mOf s - 1)) ≤ s := by
  have yb := Cal.yOf_bd s s0 s1
  have mb := Cal.mOf_bd s
  have d := Cal.dOf_bd s s0 s1
  have e := Cal.of_num s
  unfold fst
  rw [show 2000 + (12 * (Cal.yOf s - 2000) + (Cal.mOf s - 1)) / 12 = Cal.yOf s by omega, show (12 * (Cal.yOf s - 2000) + (Cal.mOf s - 1)) % 12 + 1 = Cal.mOf s by omega, fE_in _ _ yb.2]
  unfold Cal.num at e ⊢
  omega
theorem per_0 (r : Rul.T) (s : Int) (hr : recB r = true) (s0 : 0 ≤ s) (s1 : s < 36525) : perK r s 0 = true ∧ perA r s 0 ≤ s := by
  have f := recB_fr r hr
  have w := Cal.wday_bd s
  have l := fst_le_s s s0 s1
  have m := mS s s0 s1
  have h : pA r.fr s 0 ≤ s := by
    rcases fr_cases r.fr f.1 f.2 with e | e | e | e <;> rw [e]
    · rw [pA_1]; omega
    · rw [pA_2]; omega
    · rw [pA_3, Int.add_zero]; exact l
    · rw [pA_4, Int.add_zero]
      have mb := Cal.mOf_bd s
      exact Int.le_trans (fst_mono _ _ (by omega) (by omega)) l
  have hK : perK r s 0 = true := (perK_iff r s 0).2 ⟨⟨s0, s1⟩, hr, ⟨by omega, by omega⟩, by rw [Int.mul_zero]; omega⟩
  refine ⟨hK, ?_⟩
  unfold perA
  rw [if_pos hK, Int.mul_zero]
  omega
theorem daysL_in (r : Rul.T) (s k : Int) (i : Nat) (h : i < (daysL r s k).length) : perA r s k ≤ (daysL r s k)[i] ∧ (daysL r s k)[i] < perB r s k ∧ fitsB r (daysL r s k)[i] = true := by
  cases hK : perK r s k
  · have := h; rw [daysL_no r s k hK] at this; exact absurd this (Nat.not_lt_zero _)
  · have hm : (daysL r s k)[i] ∈ daysL r s k := List.getElem_mem _
    generalize (daysL r s k)[i] = d at hm ⊢
    rw [daysL_yes r s k hK, List.mem_filter, upto_mem] at hm
    obtain ⟨⟨h1, h2⟩, h3⟩ := hm
    unfold ofB at h3
    rw [Bool.and_eq_true] at h3
    exact ⟨h1, h2, h3.2⟩
theorem daysL_up (r : Rul.T) (s k : Int) (i : Nat) (h : i + 1 < (daysL r s k).length) : (daysL r s k)[i]'(Nat.lt_of_succ_lt h) < (daysL r s k)[i + 1] := by
  have hp : (daysL r s k).Pairwise (· < ·) := by
    cases hK : perK r s k
    · rw [daysL_no r s k hK]; exact List.Pairwise.nil
    · rw [daysL_yes r s k hK]; exact (upto_rise _ _).filter _
  exact List.pairwise_iff_getElem.1 hp i (i + 1) (Nat.lt_of_succ_lt h) h (Nat.lt_succ_self _)


end Go.Proofs.Ytdmplojfidkipaa

/- DaysMonths walked. Written by recipes/da9.py. -/
namespace Go.Proofs.Ytdmplojfidkipaa
open Go.RowKit Rul Go.Sort

theorem rec_plain (fr ev : Int) (h1 : 1 ≤ fr) (h2 : fr ≤ 4) (h3 : 1 ≤ ev) (h4 : ev ≤ 100) : recB ⟨fr, ev, 0, -1, [], [], []⟩ = true := by
  have a : rngB fr ev 0 (-1) = true := by
    unfold rngB; rw [(btw_iff _ _ _).2 ⟨h1, h2⟩, (btw_iff _ _ _).2 ⟨h3, h4⟩]; decide
  rw [recB_is, a]
  rcases fr_cases fr h1 h2 with rfl | rfl | rfl | rfl <;> decide
theorem plain_K (fr ev s k : Int) (h1 : 1 ≤ fr) (h2 : fr ≤ 4) (h3 : 1 ≤ ev) (h4 : ev ≤ 100) (s0 : 0 ≤ s) (s1 : s < 36525) (k0 : 0 ≤ k) (k1 : k < 36525) (h : pA fr s (ev * k) < 36525) : perK ⟨fr, ev, 0, -1, [], [], []⟩ s k = true :=
  (perK_iff _ _ _).2 ⟨⟨s0, s1⟩, rec_plain fr ev h1 h2 h3 h4, ⟨k0, k1⟩, h⟩
theorem per_at (r : Rul.T) (s k a b : Int) (h : perK r s k = true) (ha : pA r.fr s (r.ev * k) = a) (hb : pB r.fr s (r.ev * k) = b) (h0 : 0 ≤ a) (h1 : b ≤ 36525) : perA r s k = a ∧ perB r s k = b ∧ perK r s k = true := by
  unfold perA perB
  rw [if_pos h, if_pos h, ha, hb]
  exact ⟨by omega, by omega, h⟩
end Go.Proofs.Ytdmplojfidkipaa

/- Plain facts of rules without lists: one day a period at most; which months a period's days lie in. -/
namespace Go.Proofs.Ytdmplojfidkipaa
open Go.RowKit Rul

/-- the days of a month, so many behind the first one. -/
theorem in_month (m x : Int) (h0 : 0 ≤ m) (h : m < 1200) (h1 : fst m ≤ x) (h2 : x < fst (m + 1)) : Cal.yOf x = 2000 + m / 12 ∧ Cal.mOf x = m % 12 + 1 ∧ Cal.dOf x = x - fst m + 1 := by
  rw [fst_next m h0 h] at h2
  refine Cal.of_unique x _ _ _ (by omega) (by omega) ((Cal.isB_iff _ _ _).2 ⟨by omega, by omega⟩) ?_
  have e : fst m = Cal.num (2000 + m / 12) (m % 12 + 1) 1 := fE_in _ _ (by omega)
  unfold Cal.num at e ⊢
  omega
theorem in_year (j x : Int) (h0 : 0 ≤ j) (h1 : fst (12 * j) ≤ x) (h2 : x < fst (12 * j + 12)) (hx : x < 36525) : Cal.yOf x = 2000 + j := by
  have b := fst_bd (12 * j) (by omega)
  have i := fst_in (12 * j) (by omega) (by omega)
  have n := fst_jan_next j h0 (by omega)
  rw [n] at h2
  rw [fst_jan, fE_in _ _ (by omega)] at h1 h2
  have y := ydays (2000 + j) (by omega) (by omega)
  unfold Cal.num at h1 h2
  rw [Cal.cum_one] at h1 h2
  have hx0 : 0 ≤ x := by
    have := Cal.yst_bd (2000 + j) (by omega) (by omega); omega
  exact year_at x (2000 + j) hx0 hx (by omega) (by omega) (by omega) (by rw [y]; omega)

/-- what is asked of a day by a rule without lists. -/
def samB (fr s d : Int) : Bool :=
  if fr = 2 then (Cal.wday d == Cal.wday s) else if fr = 3 then (Cal.dOf d == Cal.dOf s) else if fr = 4 then (Cal.dOf d == Cal.dOf s) && (Cal.mOf d == Cal.mOf s) else true
theorem plain_of (fr ev s d : Int) (h1 : 1 ≤ fr) (h2 : fr ≤ 4) (h3 : 1 ≤ ev) (h4 : ev ≤ 100) (s0 : 0 ≤ s) (s1 : s < 36525) (d0 : 0 ≤ d) (d1 : d < 36525) : ofB ⟨fr, ev, 0, -1, [], [], []⟩ s d = samB fr s d := by
  have hr := rec_plain fr ev h1 h2 h3 h4
  rw [← refB_eq _ s d hr s0 s1]
  have hf : fitsB ⟨fr, ev, 0, -1, [], [], []⟩ d = true := by
    unfold fitsB dayB; rw [hr, decide_eq_true (show 0 ≤ d ∧ d < 36525 from ⟨d0, d1⟩)]; rfl
  unfold refB samB
  simp only [hf]
  rcases fr_cases fr h1 h2 with rfl | rfl | rfl | rfl <;> simp
theorem plain_one (fr ev s k x y : Int) (h1 : 1 ≤ fr) (h2 : fr ≤ 4) (h3 : 1 ≤ ev) (h4 : ev ≤ 100) (h : perK ⟨fr, ev, 0, -1, [], [], []⟩ s k = true)
    (x0 : perA ⟨fr, ev, 0, -1, [], [], []⟩ s k ≤ x) (x1 : x < perB ⟨fr, ev, 0, -1, [], [], []⟩ s k) (y0 : perA ⟨fr, ev, 0, -1, [], [], []⟩ s k ≤ y) (y1 : y < perB ⟨fr, ev, 0, -1, [], [], []⟩ s k) (hx : samB fr s x = true) (hy : samB fr s y = true) : x = y := by
  obtain ⟨hs, hr, hk, ha⟩ := (perK_iff _ _ _).1 h
  simp only at ha
  have n := ev_mul ev k h3 h4 hk.1 hk.2
  have m := mS s hs.1 hs.2
  unfold perA at x0 y0
  unfold perB at x1 y1
  rw [if_pos h] at x0 x1 y0 y1
  simp only at x0 x1 y0 y1
  have x3 : x < 36525 := by omega
  have y3 : y < 36525 := by omega
  rcases fr_cases fr h1 h2 with rfl | rfl | rfl | rfl
  · rw [pA_1] at x0 y0; rw [pB_1] at x1 y1; omega
  · rw [pA_2] at x0 y0; rw [pB_2] at x1 y1
    simp [samB] at hx hy
    unfold Cal.wday at hx hy x0 x1 y0 y1
    omega
  · rw [pA_3] at x0 y0 ha; rw [pB_3] at x1 y1
    simp [samB] at hx hy
    have i := fst_in _ (by omega) ha
    have b := fst_bd _ (show 0 ≤ 12 * (Cal.yOf s - 2000) + (Cal.mOf s - 1) + ev * k by omega)
    have p := (in_month _ x (by omega) i (by omega) (by omega)).2.2
    have q := (in_month _ y (by omega) i (by omega) (by omega)).2.2
    omega
  · rw [pA_4] at x0 y0 ha; rw [pB_4] at x1 y1
    simp [samB] at hx hy
    have b := fst_bd _ (show 0 ≤ 12 * (Cal.yOf s - 2000 + ev * k) by omega)
    have p := in_year (Cal.yOf s - 2000 + ev * k) x (by omega) (by omega) (by omega) x3
    have q := in_year (Cal.yOf s - 2000 + ev * k) y (by omega) (by omega) (by omega) y3
    have p2 := Cal.of_num x
    have q2 := Cal.of_num y
    rw [p, hx.1, hx.2] at p2
    rw [q, hy.1, hy.2] at q2
    omega
theorem plain_len (fr ev s k : Int) (h1 : 1 ≤ fr) (h2 : fr ≤ 4) (h3 : 1 ≤ ev) (h4 : ev ≤ 100) : (daysL ⟨fr, ev, 0, -1, [], [], []⟩ s k).length ≤ 1 := by
  cases hK : perK ⟨fr, ev, 0, -1, [], [], []⟩ s k
  · rw [daysL_no _ _ _ hK]; simp
  obtain ⟨hs, hr, hk, ha⟩ := (perK_iff _ _ _).1 hK
  have pb := per_bd _ _ _ hK
  rw [daysL_yes _ _ _ hK]
  rcases Nat.lt_or_ge 1 ((upto (perA ⟨fr, ev, 0, -1, [], [], []⟩ s k) (perB ⟨fr, ev, 0, -1, [], [], []⟩ s k)).filter (ofB ⟨fr, ev, 0, -1, [], [], []⟩ s)).length with g | g
  · exfalso
    have hp := (upto_rise (perA ⟨fr, ev, 0, -1, [], [], []⟩ s k) (perB ⟨fr, ev, 0, -1, [], [], []⟩ s k)).filter (ofB ⟨fr, ev, 0, -1, [], [], []⟩ s)
    have hlt := List.pairwise_iff_getElem.1 hp 0 1 (by omega) g (by omega)
    have m0 := List.getElem_mem (l := (upto (perA ⟨fr, ev, 0, -1, [], [], []⟩ s k) (perB ⟨fr, ev, 0, -1, [], [], []⟩ s k)).filter (ofB ⟨fr, ev, 0, -1, [], [], []⟩ s)) (n := 0) (by omega)
    have m1 := List.getElem_mem (l := (upto (perA ⟨fr, ev, 0, -1, [], [], []⟩ s k) (perB ⟨fr, ev, 0, -1, [], [], []⟩ s k)).filter (ofB ⟨fr, ev, 0, -1, [], [], []⟩ s)) (n := 1) g
    rw [List.mem_filter, upto_mem] at m0 m1
    have o0 := m0.2
    have o1 := m1.2
    rw [plain_of fr ev s _ h1 h2 h3 h4 hs.1 hs.2 (by omega) (by omega)] at o0 o1
    have := plain_one fr ev s k _ _ h1 h2 h3 h4 hK m0.1.1 m0.1.2 m1.1.1 m1.1.2 o0 o1
    omega
  · exact g
theorem at_n (p : Int → Bool) (a d b : Int) (h1 : a ≤ d) (h2 : d < b) (hp : p d = true) : ∃ h : ((upto a d).filter p).length < ((upto a b).filter p).length, ((upto a b).filter p)[((upto a d).filter p).length] = d := by
  have e : (upto a b).filter p = (upto a d).filter p ++ (d :: (upto (d + 1) b).filter p) := by
    rw [upto_split a (d + 1) b (by omega) (by omega), upto_succ a d h1, List.filter_append, List.filter_append]
    simp [hp]
  refine ⟨by rw [e]; simp, ?_⟩
  simp [e]
theorem daysL_plain (fr ev s k : Int) (h1 : 1 ≤ fr) (h2 : fr ≤ 4) (h3 : 1 ≤ ev) (h4 : ev ≤ 100) (h : perK ⟨fr, ev, 0, -1, [], [], []⟩ s k = true) :
    daysL ⟨fr, ev, 0, -1, [], [], []⟩ s k = (upto (perA ⟨fr, ev, 0, -1, [], [], []⟩ s k) (perB ⟨fr, ev, 0, -1, [], [], []⟩ s k)).filter (samB fr s) := by
  obtain ⟨hs, hr, hk, ha⟩ := (perK_iff _ _ _).1 h
  have pb := per_bd _ _ _ h
  rw [daysL_yes _ _ _ h]
  refine List.filter_congr fun d hd => ?_
  rw [upto_mem] at hd
  exact plain_of fr ev s d h1 h2 h3 h4 hs.1 hs.2 (by omega) (by omega)

end Go.Proofs.Ytdmplojfidkipaa

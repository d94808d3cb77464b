/- Plain facts of ExpandCounts: the same rule with another Count, another Until. -/
import Derived.Test.YtdmplojfidkipaaExMathC
import Derived.Test.YtdmplojfidkipaaRuR
namespace Go.Proofs.Ytdmplojfidkipaa.Rul
open Go.Proofs.Ytdmplojfidkipaa

theorem rec_with {fr ev ct un : Int} {ds : List Wd} {ms ys : List Int} (ct2 un2 : Int) (h : recB ⟨fr, ev, ct, un, ds, ms, ys⟩ = true) (h1 : 0 ≤ ct2 ∧ ct2 ≤ 40) (h2 : -1 ≤ un2 ∧ un2 ≤ 52595999) (h3 : ct2 = 0 ∨ un2 = -1) : recB ⟨fr, ev, ct2, un2, ds, ms, ys⟩ = true := by
  rw [recB_is, Bool.and_eq_true] at h ⊢
  refine ⟨?_, h.2⟩
  have := h.1
  rw [R.rng_iff] at this ⊢
  omega
theorem daysL_with {fr ev ct un ct2 un2 : Int} {ds : List Wd} {ms ys : List Int} (h : recB ⟨fr, ev, ct, un, ds, ms, ys⟩ = true) (h2 : recB ⟨fr, ev, ct2, un2, ds, ms, ys⟩ = true) (s k : Int) : daysL ⟨fr, ev, ct2, un2, ds, ms, ys⟩ s k = daysL ⟨fr, ev, ct, un, ds, ms, ys⟩ s k := by
  have hK : perK ⟨fr, ev, ct2, un2, ds, ms, ys⟩ s k = perK ⟨fr, ev, ct, un, ds, ms, ys⟩ s k := by unfold perK; rw [h, h2]
  have hf : ∀ d, fitsB ⟨fr, ev, ct2, un2, ds, ms, ys⟩ d = fitsB ⟨fr, ev, ct, un, ds, ms, ys⟩ d := fun d => by unfold fitsB; rw [h, h2]; rfl
  have ho : ofB ⟨fr, ev, ct2, un2, ds, ms, ys⟩ s = ofB ⟨fr, ev, ct, un, ds, ms, ys⟩ s := by funext d; unfold ofB; rw [hf]; rfl
  have hA : perA ⟨fr, ev, ct2, un2, ds, ms, ys⟩ s k = perA ⟨fr, ev, ct, un, ds, ms, ys⟩ s k := by unfold perA; rw [hK]
  have hB : perB ⟨fr, ev, ct2, un2, ds, ms, ys⟩ s k = perB ⟨fr, ev, ct, un, ds, ms, ys⟩ s k := by unfold perB; rw [hK]
  unfold daysL
  rw [hK, hA, hB, ho]
theorem cand_with {fr ev ct un ct2 un2 : Int} {ds : List Wd} {ms ys : List Int} (h : recB ⟨fr, ev, ct, un, ds, ms, ys⟩ = true) (h2 : recB ⟨fr, ev, ct2, un2, ds, ms, ys⟩ = true) (s : Int) : cand ⟨fr, ev, ct2, un2, ds, ms, ys⟩ s = cand ⟨fr, ev, ct, un, ds, ms, ys⟩ s := by
  unfold cand candT
  have : candK ⟨fr, ev, ct2, un2, ds, ms, ys⟩ s = candK ⟨fr, ev, ct, un, ds, ms, ys⟩ s := by
    funext k; unfold candK; rw [daysL_with h h2]
  rw [this]
theorem cand_in (r : T) (s m : Int) (h : m ∈ cand r s) : s ≤ m ∧ m ≤ 52595999 := by
  obtain ⟨i, _, hi⟩ := (candT_mem r s m 36525).1 h
  exact ⟨(candK_mem r s m i hi).2.2.2.2.1, candK_le' r s m i hi⟩
 where
  candK_le' (r : T) (s m : Int) (k : Nat) (h : m ∈ candK r s k) : m ≤ 52595999 := by
    have a := candK_mem r s m k h
    have b := per_bd _ _ _ a.1
    omega
theorem allL_count (r : T) (s : Int) (n : Nat) (hn : 0 < n) (hc : r.ct = n) (hu : r.un = -1) : allL r s = (cand r s).take n := by
  unfold allL
  rw [show (cand r s).filter (keepU r) = cand r s from List.filter_eq_self.2 fun m _ => keepU_lo r m (by omega), capN_ct r (by omega), hc]
  rfl
/-- of rising numbers those up to the n-th are the first n. -/
theorem rise_take (l : List Int) (hp : l.Pairwise (· < ·)) (n : Nat) (u : Int) (i : Nat) (hi : i < l.length) (hin : i + 1 = n ∨ (i + 1 = l.length ∧ l.length ≤ n)) (hu : l[i] = u) : (l.filter fun m => decide (m ≤ u)) = l.take n := by
  have hr := List.pairwise_iff_getElem.1 hp
  conv => lhs; rw [← List.take_append_drop n l]
  rw [List.filter_append]
  have h1 : ((l.take n).filter fun m => decide (m ≤ u)) = l.take n := List.filter_eq_self.2 fun m hm => by
    obtain ⟨j, hj, rfl⟩ := List.mem_iff_getElem.1 hm
    rw [List.getElem_take]
    rw [List.length_take] at hj
    rcases Nat.lt_or_ge j i with g | g
    · have := hr j i (by omega) hi g
      exact decide_eq_true (by omega)
    · obtain rfl : j = i := by omega
      exact decide_eq_true (by omega)
  have h2 : ((l.drop n).filter fun m => decide (m ≤ u)) = [] := List.filter_eq_nil_iff.2 fun m hm => by
    obtain ⟨j, hj, rfl⟩ := List.mem_iff_getElem.1 hm
    rw [List.getElem_drop]
    rw [List.length_drop] at hj
    have := hr i (n + j) hi (by omega) (by omega)
    simp; omega
  rw [h1, h2, List.append_nil]
theorem allL_until (r : T) (s u : Int) (n i : Nat) (hi : i < (cand r s).length) (hin : i + 1 = n ∨ (i + 1 = (cand r s).length ∧ (cand r s).length ≤ n)) (hn : n ≤ 41) (hu : (cand r s)[i] = u) (hc : r.ct = 0) (h0 : 0 ≤ u) (hun : r.un = u) : allL r s = (cand r s).take n := by
  unfold allL
  have : (cand r s).filter (keepU r) = (cand r s).take n := by
    rw [← rise_take (cand r s) (candT_up r s 36525) n u i hi hin hu]
    refine List.filter_congr fun m _ => ?_
    unfold keepU; rw [hun, decide_eq_false (by omega), Bool.false_or]
  rw [this, capN_0 r (by omega)]
  exact List.take_of_length_le (Nat.le_trans (List.length_take_le _ _) hn)
/-- what Starts says with nothing left out. -/
theorem starts_none (r : T) (s : Int) (l : List Int) (h : recB r = true) (h1 : 0 ≤ s) (h2 : s < 52596000) (hl : allL r s = l) (hn : l.length ≤ 40) : startsE r s [] = if l.length = 0 then ([], 23) else (l, 0) := by
  by_cases he : l.length = 0
  · rw [if_pos he]; exact startsE_empty r s [] l h h1 h2 hl hn ((filter_none l).trans (List.eq_nil_of_length_eq_zero he))
  · rw [if_neg he]; exact startsE_ok r s [] l l h h1 h2 hl hn (filter_none l) fun h0 => he (by rw [h0]; rfl)
/-- all that ExpandCounts compares. -/
theorem counts_law {fr ev ct un : Int} {ds : List Wd} {ms ys : List Int} (h : recB ⟨fr, ev, ct, un, ds, ms, ys⟩ = true) (s : Int) (c : Nat) (hc : 2 ≤ c) (hc2 : c ≤ 21) (s0 : 0 ≤ s) (s1 : s < 52596000) :
    ∃ l : List Int, l.length ≤ c ∧ (startsE ⟨fr, ev, c, -1, ds, ms, ys⟩ s [] = if l.length = 0 then ([], 23) else (l, 0)) ∧
      (startsE ⟨fr, ev, (c : Int) - 1, -1, ds, ms, ys⟩ s [] = if l.length = 0 then ([], 23) else (l.take (c - 1), 0)) ∧
      ∀ i (hi : i < l.length), i + 1 = l.length → startsE ⟨fr, ev, 0, l[i], ds, ms, ys⟩ s [] = (l, 0) ∧ 0 ≤ l[i] ∧ l[i] ≤ 52595999 := by
  have ha := rec_with (c : Int) (-1) h (by omega) (by omega) (Or.inr rfl)
  have hb := rec_with ((c : Int) - 1) (-1) h (by omega) (by omega) (Or.inr rfl)
  have ca := allL_count ⟨fr, ev, c, -1, ds, ms, ys⟩ s c (by omega) rfl rfl
  have cb := allL_count ⟨fr, ev, (c : Int) - 1, -1, ds, ms, ys⟩ s (c - 1) (by omega) (by show (c : Int) - 1 = _; omega) rfl
  rw [cand_with h ha s] at ca
  rw [cand_with h hb s] at cb
  have hin := cand_in ⟨fr, ev, ct, un, ds, ms, ys⟩ s
  have hcw := fun (u : Int) (hu : -1 ≤ u ∧ u ≤ 52595999) => cand_with h (rec_with 0 u h (by omega) hu (Or.inl rfl)) s
  obtain ⟨C, hC⟩ : ∃ C, cand ⟨fr, ev, ct, un, ds, ms, ys⟩ s = C := ⟨_, rfl⟩
  rw [hC] at ca cb hin
  have hlt : (C.take c).length = min c C.length := List.length_take
  refine ⟨C.take c, List.length_take_le _ _, starts_none _ s _ ha s0 s1 ca (by omega), ?_, ?_⟩
  · rw [starts_none _ s _ hb s0 s1 cb (by rw [List.length_take]; omega), List.take_take, show min (c - 1) c = c - 1 by omega]
    by_cases h0 : C.length = 0
    · rw [if_pos (by rw [List.length_take]; omega), if_pos (by omega)]
    · rw [if_neg (by rw [List.length_take]; omega), if_neg (by omega)]
  · intro i hi hl
    have hi2 : i < C.length := by omega
    have e : (C.take c)[i] = C[i] := List.getElem_take
    have hr := hin C[i] (List.getElem_mem _)
    rw [e]
    refine ⟨?_, by omega, by omega⟩
    have hcC := (hcw C[i] (by omega)).trans hC
    have hau := allL_until ⟨fr, ev, 0, C[i], ds, ms, ys⟩ s C[i] c i (by rw [hcC]; exact hi2) (by rw [hcC]; omega) (by omega) (List.getElem_of_eq hcC _) rfl (by omega) rfl
    rw [hcC] at hau
    rw [starts_none _ s _ (rec_with 0 C[i] h (by omega) (by omega) (Or.inl rfl)) s0 s1 hau (by omega), if_neg (by omega)]

end Go.Proofs.Ytdmplojfidkipaa.Rul

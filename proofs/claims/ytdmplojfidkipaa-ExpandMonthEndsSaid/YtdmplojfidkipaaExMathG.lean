/- Put together: ExMathG ExMathH. -/
import Derived.Test.YtdmplojfidkipaaExMathC
import Derived.Test.YtdmplojfidkipaaRuR
import Derived.Test.YtdmplojfidkipaaCivH

/- Plain facts of ExpandCounts: the same rule with another Count, another Until. -/
namespace Go.Proofs.Ytdmplojfidkipaa.Rul
open Go.Proofs.Ytdmplojfidkipaa

theorem rec_with {fr ev ct un : Int} {ds : List Wd} {ms ys : List Int} (ct2 un2 : Int) (h : recB ⟨fr, ev, ct, un, ds, ms, ys⟩ = true) (h1 : 0 ≤ ct2 ∧ ct2 ≤ 40) (h2 : -1 ≤ un2 ∧ un2 ≤ 52595999) (h3 : ct2 = 0 ∨ un2 = -1) : recB ⟨fr, ev, ct2, un2, ds, ms, ys⟩ = true := by
  rw [recB_is, Bool.and_eq_true] at h ⊢
  refine ⟨?_, h.2⟩
  have := h.1
  rw [R.rng_iff] at this ⊢
  omega
theorem daysL_with {fr ev ct un ct2 un2 : Int} {ds : List Wd} {ms ys : List Int} (h : recB ⟨fr, ev, ct, un, ds, ms, ys⟩ = true) (h2 : recB ⟨fr, ev, ct2, un2, ds, ms, ys⟩ = true) (s k : Int) : daysL ⟨fr, ev, ct2, un2, ds, ms, ys⟩ s k = daysL ⟨fr, ev, ct, un, ds, ms, ys⟩ s k := by
  have hK : perK ⟨fr, ev, ct2, un2, ds, ms, ys⟩ s k = perK ⟨fr, ev, ct, un, ds, ms, ys⟩ s k := by unfold perK; rw [h, h2]
  have hf : ∀ d, fitsB ⟨fr, ev, ct2, un2, ds, ms, ys⟩ d = fitsB ⟨fr, ev, ct, un, ds, ms, ys⟩ d := fun d => by unfold fitsB; rw [h, h2]; rfl
  have ho : ofB ⟨fr, ev, ct2, un2, ds, ms, ys⟩ s = ofB ⟨fr, ev, ct, un, ds, ms, ys⟩ s := by funext d; unfold ofB; rw [hf]; rfl
  have hA : perA ⟨fr, ev, ct2, un2, ds, ms, ys⟩ s k = perA ⟨fr, ev, ct, un, ds, ms, ys⟩ s k := by unfold perA; rw [hK]
  have hB : perB ⟨fr, ev, ct2, un2, ds, ms, ys⟩ s k = perB ⟨fr, ev, ct, un, ds, ms, ys⟩ s k := by unfold perB; rw [hK]
  unfold daysL
  rw [hK, hA, hB, ho]
theorem cand_with {fr ev ct un ct2 un2 : Int} {ds : List Wd} {ms ys : List Int} (h : recB ⟨fr, ev, ct, un, ds, ms, ys⟩ = true) (h2 : recB ⟨fr, ev, ct2, un2, ds, ms, ys⟩ = true) (s : Int) : cand ⟨fr, ev, ct2, un2, ds, ms, ys⟩ s = cand ⟨fr, ev, ct, un, ds, ms, ys⟩ s := by
  unfold cand candT
  have : candK ⟨fr, ev, ct2, un2, ds, ms, ys⟩ s = candK ⟨fr, ev, ct, un, ds, ms, ys⟩ s := by
    funext k; unfold candK; rw [daysL_with h h2]
  rw [this]
theorem cand_in (r : T) (s m : Int) (h : m ∈ cand r s) : s ≤ m ∧ m ≤ 52595999 := by
  obtain ⟨i, _, hi⟩ := (candT_mem r s m 36525).1 h
  exact ⟨(candK_mem r s m i hi).2.2.2.2.1, candK_le' r s m i hi⟩
 where
  candK_le' (r : T) (s m : Int) (k : Nat) (h : m ∈ candK r s k) : m ≤ 52595999 := by
    have a := candK_mem r s m k h
    have b := per_bd _ _ _ a.1
    omega
theorem allL_count (r : T) (s : Int) (n : Nat) (hn : 0 < n) (hc : r.ct = n) (hu : r.un = -1) : allL r s = (cand r s).take n := by
  unfold allL
  rw [show (cand r s).filter (keepU r) = cand r s from List.filter_eq_self.2 fun m _ => keepU_lo r m (by omega), capN_ct r (by omega), hc]
  rfl
/-- of rising numbers those up to the n-th are the first n. -/
theorem rise_take (l : List Int) (hp : l.Pairwise (· < ·)) (n : Nat) (u : Int) (i : Nat) (hi : i < l.length) (hin : i + 1 = n ∨ (i + 1 = l.length ∧ l.length ≤ n)) (hu : l[i] = u) : (l.filter fun m => decide (m ≤ u)) = l.take n := by
  have hr := List.pairwise_iff_getElem.1 hp
  conv => lhs; rw [← List.take_append_drop n l]
  rw [List.filter_append]
  have h1 : ((l.take n).filter fun m => decide (m ≤ u)) = l.take n := List.filter_eq_self.2 fun m hm => by
    obtain ⟨j, hj, rfl⟩ := List.mem_iff_getElem.1 hm
    rw [List.getElem_take]
    rw [List.length_take] at hj
    rcases Nat.lt_or_ge j i with g | g
    · have := hr j i (by omega) hi g
      exact decide_eq_true (by omega)
    · obtain rfl : j = i := by omega
      exact decide_eq_true (by omega)
  have h2 : ((l.drop n).filter fun m => decide (m ≤ u)) = [] := List.filter_eq_nil_iff.2 fun m hm => by
    obtain ⟨j, hj, rfl⟩ := List.mem_iff_getElem.1 hm
    rw [List.getElem_drop]
    rw [List.length_drop] at hj
    have := hr i (n + j) hi (by omega) (by omega)
    simp; omega
  rw [h1, h2, List.append_nil]
theorem allL_until (r : T) (s u : Int) (n i : Nat) (hi : i < (cand r s).length) (hin : i + 1 = n ∨ (i + 1 = (cand r s).length ∧ (cand r s).length ≤ n)) (hn : n ≤ 41) (hu : (cand r s)[i] = u) (hc : r.ct = 0) (h0 : 0 ≤ u) (hun : r.un = u) : allL r s = (cand r s).take n := by
  unfold allL
  have : (cand r s).filter (keepU r) = (cand r s).take n := by
    rw [← rise_take (cand r s) (candT_up r s 36525) n u i hi hin hu]
    refine List.filter_congr fun m _ => ?_
    unfold keepU; rw [hun, decide_eq_false (by omega), Bool.false_or]
  rw [this, capN_0 r (by omega)]
  exact List.take_of_length_le (Nat.le_trans (List.length_take_le _ _) hn)
/-- what Starts says with nothing left out. -/
theorem starts_none (r : T) (s : Int) (l : List Int) (h : recB r = true) (h1 : 0 ≤ s) (h2 : s < 52596000) (hl : allL r s = l) (hn : l.length ≤ 40) : startsE r s [] = if l.length = 0 then ([], 23) else (l, 0) := by
  by_cases he : l.length = 0
  · rw [if_pos he]; exact startsE_empty r s [] l h h1 h2 hl hn ((filter_none l).trans (List.eq_nil_of_length_eq_zero he))
  · rw [if_neg he]; exact startsE_ok r s [] l l h h1 h2 hl hn (filter_none l) fun h0 => he (by rw [h0]; rfl)
/-- all that ExpandCounts compares. -/
theorem counts_law {fr ev ct un : Int} {ds : List Wd} {ms ys : List Int} (h : recB ⟨fr, ev, ct, un, ds, ms, ys⟩ = true) (s : Int) (c : Nat) (hc : 2 ≤ c) (hc2 : c ≤ 21) (s0 : 0 ≤ s) (s1 : s < 52596000) :
    ∃ l : List Int, l.length ≤ c ∧ (startsE ⟨fr, ev, c, -1, ds, ms, ys⟩ s [] = if l.length = 0 then ([], 23) else (l, 0)) ∧
      (startsE ⟨fr, ev, (c : Int) - 1, -1, ds, ms, ys⟩ s [] = if l.length = 0 then ([], 23) else (l.take (c - 1), 0)) ∧
      ∀ i (hi : i < l.length), i + 1 = l.length → startsE ⟨fr, ev, 0, l[i], ds, ms, ys⟩ s [] = (l, 0) ∧ 0 ≤ l[i] ∧ l[i] ≤ 52595999 := by
  have ha := rec_with (c : Int) (-1) h (by omega) (by omega) (Or.inr rfl)
  have hb := rec_with ((c : Int) - 1) (-1) h (by omega) (by omega) (Or.inr rfl)
  have ca := allL_count ⟨fr, ev, c, -1, ds, ms, ys⟩ s c (by omega) rfl rfl
  have cb := allL_count ⟨fr, ev, (c : Int) - 1, -1, ds, ms, ys⟩ s (c - 1) (by omega) (by show (c : Int) - 1 = _; omega) rfl
  rw [cand_with h ha s] at ca
  rw [cand_with h hb s] at cb
  have hin := cand_in ⟨fr, ev, ct, un, ds, ms, ys⟩ s
  have hcw := fun (u : Int) (hu : -1 ≤ u ∧ u ≤ 52595999) => cand_with h (rec_with 0 u h (by omega) hu (Or.inl rfl)) s
  obtain ⟨C, hC⟩ : ∃ C, cand ⟨fr, ev, ct, un, ds, ms, ys⟩ s = C := ⟨_, rfl⟩
  rw [hC] at ca cb hin
  have hlt : (C.take c).length = min c C.length := List.length_take
  refine ⟨C.take c, List.length_take_le _ _, starts_none _ s _ ha s0 s1 ca (by omega), ?_, ?_⟩
  · rw [starts_none _ s _ hb s0 s1 cb (by rw [List.length_take]; omega), List.take_take, show min (c - 1) c = c - 1 by omega]
    by_cases h0 : C.length = 0
    · rw [if_pos (by rw [List.length_take]; omega), if_pos (by omega)]
    · rw [if_neg (by rw [List.length_take]; omega), if_neg (by omega)]
  · intro i hi hl
    have hi2 : i < C.length := by omega
    have e : (C.take c)[i] = C[i] := List.getElem_take
    have hr := hin C[i] (List.getElem_mem _)
    rw [e]
    refine ⟨?_, by omega, by omega⟩
    have hcC := (hcw C[i] (by omega)).trans hC
    have hau := allL_until ⟨fr, ev, 0, C[i], ds, ms, ys⟩ s C[i] c i (by rw [hcC]; exact hi2) (by rw [hcC]; omega) (by omega) (List.getElem_of_eq hcC _) rfl (by omega) rfl
    rw [hcC] at hau
    rw [starts_none _ s _ (rec_with 0 C[i] h (by omega) (by omega) (Or.inl rfl)) s0 s1 hau (by omega), if_neg (by omega)]

end Go.Proofs.Ytdmplojfidkipaa.Rul

/- Plain facts of ExpandMonthEnds: a monthly rule without lists, from a January on. -/
namespace Go.Proofs.Ytdmplojfidkipaa.Rul
open Go.Proofs.Ytdmplojfidkipaa

/-- the days of a row of days that are the v-th. -/
theorem upto_pick (a b v : Int) (h1 : a ≤ v) (h2 : v < b) (p : Int → Bool) (hp : ∀ x, a ≤ x → x < b → (p x = true ↔ x = v)) : (upto a b).filter p = [v] := by
  rw [upto_split a v b h1 (by omega), upto_split v (v + 1) b (by omega) (by omega), upto_succ v v (Int.le_refl _), upto_nil, List.filter_append, List.filter_append]
  have e1 : (upto a v).filter p = [] := List.filter_eq_nil_iff.2 fun x hx hc => by
    rw [upto_mem] at hx; have := (hp x hx.1 (by omega)).1 hc; omega
  have e2 : (upto (v + 1) b).filter p = [] := List.filter_eq_nil_iff.2 fun x hx hc => by
    rw [upto_mem] at hx; have := (hp x (by omega) hx.2).1 hc; omega
  have e3 : p v = true := (hp v h1 h2).2 rfl
  rw [e1, e2]
  simp [e3]
theorem upto_none (a b : Int) (p : Int → Bool) (hp : ∀ x, a ≤ x → x < b → p x = false) : (upto a b).filter p = [] :=
  List.filter_eq_nil_iff.2 fun x hx => by rw [upto_mem] at hx; rw [hp x hx.1 hx.2]; simp
/-- has the k-th month behind that of q a D-th day? -/
def monB (q D : Int) (k : Nat) : Bool := decide (D ≤ Cal.dim (2000 + (q + k) / 12) ((q + k) % 12 + 1))
def monM (q D : Int) (k : Nat) : Int := (fst (q + k) + D - 1) * 1440 + 540
def monL (q D : Int) (k : Nat) : List Int := ((List.range k).filter (monB q D)).map (monM q D)
abbrev monR (c : Int) : T := ⟨3, 1, c, -1, [], [], []⟩
theorem mon_day (q D : Int) (q0 : 0 ≤ q) (q1 : q ≤ 468) (hq : q % 12 = 0) (D0 : 1 ≤ D) (D1 : D ≤ 31) : 0 ≤ fst q + D - 1 ∧ fst q + D - 1 < 36525 ∧ Cal.yOf (fst q + D - 1) = 2000 + q / 12 ∧ Cal.mOf (fst q + D - 1) = 1 ∧ Cal.dOf (fst q + D - 1) = D := by
  have b := fst_lt q q0 (by omega)
  have n := fst_next q q0 (by omega)
  have b2 := fst_bd (q + 1) (by omega)
  rw [hq] at n
  have hd : Cal.dim (2000 + q / 12) (0 + 1) = 31 := rfl
  rw [hd] at n
  have m := in_month q (fst q + D - 1) q0 (by omega) (by omega) (by omega)
  refine ⟨by omega, by omega, m.1, ?_, ?_⟩
  · rw [m.2.1, hq]; rfl
  · rw [m.2.2]; omega
theorem monR_rec (c : Int) (c0 : 0 ≤ c) (c1 : c ≤ 40) : recB (monR c) = true :=
  rec_with c (-1) (rec_plain 3 1 (by omega) (by omega) (by omega) (by omega)) ⟨c0, c1⟩ (by omega) (Or.inr rfl)
theorem mon_days (q D c : Int) (k : Nat) (q0 : 0 ≤ q) (q1 : q ≤ 468) (hq : q % 12 = 0) (D0 : 1 ≤ D) (D1 : D ≤ 31) (c0 : 0 ≤ c) (c1 : c ≤ 40) (hk : k ≤ 100) :
    daysL (monR c) (fst q + D - 1) k = if monB q D k then [fst (q + k) + D - 1] else [] := by
  obtain ⟨s0, s1, hy, hm, hd⟩ := mon_day q D q0 q1 hq D0 D1
  have hp := rec_plain 3 1 (by omega) (by omega) (by omega) (by omega)
  rw [daysL_with hp (monR_rec c c0 c1)]
  have b := fst_lt (q + k) (by omega) (by omega)
  have b2 := fst_bd (q + k + 1) (by omega)
  have hA : pA 3 (fst q + D - 1) (1 * k) = fst (q + k) := by rw [pA_3, hy, hm]; congr 1; omega
  have hB : pB 3 (fst q + D - 1) (1 * k) = fst (q + k + 1) := by rw [pB_3, hy, hm]; congr 1; omega
  have hK := plain_K 3 1 (fst q + D - 1) k (by omega) (by omega) (by omega) (by omega) s0 s1 (by omega) (by omega) (by rw [hA]; exact b.2)
  obtain ⟨ea, eb, _⟩ := per_at ⟨3, 1, 0, -1, [], [], []⟩ _ k _ _ hK hA hB b.1 b2.2
  rw [daysL_plain 3 1 _ k (by omega) (by omega) (by omega) (by omega) hK, ea, eb]
  have n := fst_next (q + k) (by omega) (by omega)
  have hin := fun x h1 h2 => in_month (q + k) x (by omega) (by omega) h1 h2
  have hs : ∀ x, samB 3 (fst q + D - 1) x = (Cal.dOf x == D) := fun x => by unfold samB; rw [hd]; rfl
  unfold monB
  by_cases hD : D ≤ Cal.dim (2000 + (q + k) / 12) ((q + k) % 12 + 1)
  · rw [decide_eq_true hD, if_pos rfl]
    refine upto_pick _ _ _ (by omega) (by omega) _ fun x h1 h2 => ?_
    rw [hs, beq_iff_eq, (hin x h1 h2).2.2]; omega
  · rw [decide_eq_false hD, if_neg (by simp)]
    refine upto_none _ _ _ fun x h1 h2 => ?_
    rw [hs, beq_eq_false_iff_ne, (hin x h1 h2).2.2]; omega
theorem monL_yes (q D : Int) (k : Nat) (h : monB q D k = true) : monL q D (k + 1) = monL q D k ++ [monM q D k] := by
  unfold monL; rw [List.range_succ, List.filter_append, List.filter_cons, h, List.map_append]; rfl
theorem monL_no (q D : Int) (k : Nat) (h : monB q D k = false) : monL q D (k + 1) = monL q D k := by
  unfold monL; rw [List.range_succ, List.filter_append, List.filter_cons, h]; simp
theorem mon_candT (q D c : Int) (n : Nat) (q0 : 0 ≤ q) (q1 : q ≤ 468) (hq : q % 12 = 0) (D0 : 1 ≤ D) (D1 : D ≤ 31) (c0 : 0 ≤ c) (c1 : c ≤ 40) (hn : n ≤ 100) : candT (monR c) ((fst q + D - 1) * 1440 + 540) n = monL q D n := by
  have e1 : ((fst q + D - 1) * 1440 + 540) / 1440 = fst q + D - 1 := by omega
  have e2 : ((fst q + D - 1) * 1440 + 540) % 1440 = 540 := by omega
  induction n with
  | zero => rfl
  | succ n ih =>
    have mo := fst_mono q (q + n) q0 (by omega)
    rw [candT_succ, ih (by omega)]
    unfold candK
    rw [e1, e2, mon_days q D c n q0 q1 hq D0 D1 c0 c1 (by omega)]
    cases h : monB q D n
    · rw [monL_no q D n h]; simp
    · rw [monL_yes q D n h]
      have hle : (fst q + D - 1) * 1440 + 540 ≤ (fst (q + n) + D - 1) * 1440 + 540 := by omega
      simp [monM, hle]
theorem monL_100 (q D : Int) (_q0 : 0 ≤ q) (hq : q % 12 = 0) (D1 : D ≤ 31) : 30 ≤ (monL q D 100).length := by
  unfold monL
  rw [List.length_map, ← List.countP_eq_length_filter]
  refine Nat.le_trans (show 30 ≤ (List.range 100).countP (fun i => decide (i % 12 = 0) || decide (i % 12 = 2) || decide (i % 12 = 4) || decide (i % 12 = 6) || decide (i % 12 = 7)) by decide +kernel) ?_
  refine List.countP_mono_left fun i _ h => ?_
  have hm : (q + (i : Int)) % 12 = (i % 12 : Nat) := by omega
  unfold monB
  rw [hm]
  simp only [Bool.or_eq_true, decide_eq_true_eq] at h
  refine decide_eq_true ?_
  rcases h with (((h | h) | h) | h) | h <;> rw [h] <;> exact D1
theorem mon_all (q D : Int) (c : Nat) (q0 : 0 ≤ q) (q1 : q ≤ 468) (hq : q % 12 = 0) (D0 : 1 ≤ D) (D1 : D ≤ 31) (c0 : 0 < c) (c1 : c ≤ 30) : allL (monR c) ((fst q + D - 1) * 1440 + 540) = (monL q D 100).take c := by
  have hl := monL_100 q D q0 hq D1
  rw [allL_count _ _ c c0 rfl rfl]
  obtain ⟨t, e, _⟩ := cand_split (monR c) ((fst q + D - 1) * 1440 + 540) 100 (by omega)
  rw [e, mon_candT q D c 100 q0 q1 hq D0 D1 (by omega) (by omega) (Nat.le_refl _)]
  exact List.take_append_of_le_length (by omega)
theorem mon_starts (q D : Int) (c : Nat) (q0 : 0 ≤ q) (q1 : q ≤ 468) (hq : q % 12 = 0) (D0 : 1 ≤ D) (D1 : D ≤ 31) (c0 : 0 < c) (c1 : c ≤ 30) : startsE (monR c) ((fst q + D - 1) * 1440 + 540) [] = ((monL q D 100).take c, 0) ∧ ((monL q D 100).take c).length = c := by
  have hl := monL_100 q D q0 hq D1
  have d := mon_day q D q0 q1 hq D0 D1
  have hlen : ((monL q D 100).take c).length = c := by rw [List.length_take]; omega
  refine ⟨?_, hlen⟩
  rw [starts_none _ _ _ (monR_rec c (by omega) (by omega)) (by omega) (by omega) (mon_all q D c q0 q1 hq D0 D1 c0 c1) (by omega), if_neg (by omega)]
/-- the n-th of them is there where it is. -/
theorem mon_at (q D : Int) (c m : Nat) (hm : m < 100) (h : monB q D m = true) (hlt : (monL q D m).length < ((monL q D 100).take c).length) : ((monL q D 100).take c)[(monL q D m).length] = monM q D m := by
  have key : ∀ j, ∃ t, monL q D (m + 1 + j) = monL q D (m + 1) ++ t := by
    intro j
    induction j with
    | zero => exact ⟨[], by simp⟩
    | succ j ih =>
      obtain ⟨t, e⟩ := ih
      cases hb : monB q D (m + 1 + j)
      · exact ⟨t, by rw [show m + 1 + (j + 1) = m + 1 + j + 1 by omega, monL_no _ _ _ hb, e]⟩
      · exact ⟨t ++ [monM q D (m + 1 + j)], by rw [show m + 1 + (j + 1) = m + 1 + j + 1 by omega, monL_yes _ _ _ hb, e, List.append_assoc]⟩
  obtain ⟨t, e⟩ := key (99 - m)
  rw [show m + 1 + (99 - m) = 100 by omega, monL_yes q D m h] at e
  rw [List.getElem_take]
  have : (monL q D 100)[(monL q D m).length]? = some (monM q D m) := by rw [e]; simp
  exact (List.getElem?_eq_some_iff.1 this).2
/-- what Minute answers of the date. -/
theorem mon_min (q D : Int) (k : Nat) (q0 : 0 ≤ q) (q1 : q ≤ 468) (D0 : 1 ≤ D) (hk : k < 100) : (monB q D k = true → minE (2000 + (q + k) / 12) ((q + k) % 12 + 1) D 9 0 = (monM q D k, 0)) ∧ (monB q D k = false → (minE (2000 + (q + k) / 12) ((q + k) % 12 + 1) D 9 0).2 = 11) := by
  have ht : timeB 9 0 = true := rfl
  have e : fst (q + k) = Cal.num (2000 + (q + k) / 12) ((q + k) % 12 + 1) 1 := fE_in _ _ (by omega)
  unfold monB
  refine ⟨fun h => ?_, fun h => ?_⟩
  · have h := of_decide_eq_true h
    unfold minE monM
    rw [numE_0 _ _ _ ((Cal.isB_iff _ _ _).2 ⟨D0, h⟩) (by omega) (by omega), if_pos rfl, if_pos ht, e]
    unfold Cal.num
    simp only
    congr 1
    omega
  · have h := of_decide_eq_false h
    have hb : Cal.isB (2000 + (q + k) / 12) ((q + k) % 12 + 1) D = false := by rw [Bool.eq_false_iff]; intro hc; exact h ((Cal.isB_iff _ _ _).1 hc).2
    unfold minE
    rw [numE_11 _ _ _ hb]
    rfl

end Go.Proofs.Ytdmplojfidkipaa.Rul

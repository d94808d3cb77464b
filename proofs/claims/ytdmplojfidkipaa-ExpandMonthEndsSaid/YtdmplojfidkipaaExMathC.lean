/- Put together: ExMathB ExMathC ExMathD ExMathF. -/
import Derived.Test.YtdmplojfidkipaaExMath

/- Plain facts of daily rules: their minutes are added up. -/
namespace Go.Proofs.Ytdmplojfidkipaa.Rul
open Go.Proofs.Ytdmplojfidkipaa

/-- a daily rule without lists. -/
abbrev dayR (ev ct un : Int) : T := ⟨1, ev, ct, un, [], [], []⟩
theorem dayR_rec (ev ct un : Int) (h1 : 1 ≤ ev) (h2 : ev ≤ 100) (h3 : 0 ≤ ct) (h4 : ct ≤ 40) (h5 : -1 ≤ un) (h6 : un ≤ 52595999) (h7 : ct = 0 ∨ un = -1) : recB (dayR ev ct un) = true := by
  have a : rngB 1 ev ct un = true := by
    unfold rngB
    rw [(btw_iff _ _ _).2 ⟨by omega, by omega⟩, (btw_iff _ _ _).2 ⟨h1, h2⟩, (btw_iff _ _ _).2 ⟨h3, h4⟩, (btw_iff _ _ _).2 ⟨h5, h6⟩]
    rcases h7 with g | g
    · rw [g]; rfl
    · rw [g]; simp
  rw [recB_is, a]; rfl
theorem dayR_days (ev ct un d : Int) (k : Nat) (hr : recB (dayR ev ct un) = true) (d0 : 0 ≤ d) (hd : d + ev * k < 36525) : perK (dayR ev ct un) d k = true ∧ daysL (dayR ev ct un) d k = [d + ev * k] := by
  have e := recB_ev _ hr
  simp only at e
  have hk0 : 0 ≤ ev * (k : Int) := Int.mul_nonneg (by omega) (by omega)
  have hk1 : 1 * (k : Int) ≤ ev * k := Int.mul_le_mul_of_nonneg_right e.1 (by omega)
  have hK : perK (dayR ev ct un) d k = true := (perK_iff _ _ _).2 ⟨⟨d0, by omega⟩, hr, ⟨by omega, by omega⟩, by show pA 1 d (ev * k) < 36525; rw [pA_1]; exact hd⟩
  refine ⟨hK, ?_⟩
  have ea : perA (dayR ev ct un) d k = d + ev * k := by unfold perA; rw [if_pos hK]; show max (pA 1 d (ev * k)) 0 = _; rw [pA_1]; omega
  have eb : perB (dayR ev ct un) d k = d + ev * k + 1 := by unfold perB; rw [if_pos hK]; show min (pB 1 d (ev * k)) 36525 = _; rw [pB_1]; omega
  have ho : ofB (dayR ev ct un) d (d + ev * k) = true := by
    have hf : fitsB (dayR ev ct un) (d + ev * k) = true := by
      unfold fitsB dayB; rw [hr, decide_eq_true (show 0 ≤ d + ev * k ∧ d + ev * k < 36525 from ⟨by omega, hd⟩)]; rfl
    unfold ofB
    rw [hf, Bool.and_true]
    simp [hasB, wkA, dyA, moA]
  rw [daysL_yes _ _ _ hK, ea, eb, upto_succ _ _ (Int.le_refl _), upto_nil, List.nil_append, List.filter_cons, ho]
  simp
theorem dayR_candK (ev ct un s : Int) (k : Nat) (hr : recB (dayR ev ct un) = true) (s0 : 0 ≤ s) (hd : s / 1440 + ev * k < 36525) : candK (dayR ev ct un) s k = [s + ev * k * 1440] := by
  have e := recB_ev _ hr
  simp only at e
  have hk0 : 0 ≤ ev * (k : Int) := Int.mul_nonneg (by omega) (by omega)
  unfold candK
  rw [(dayR_days ev ct un (s / 1440) k hr (by omega) hd).2]
  have h1 : (s / 1440 + ev * k) * 1440 + s % 1440 = s + ev * k * 1440 := by rw [Int.add_mul]; omega
  have h2 : s ≤ s + ev * k * 1440 := by
    have : 0 ≤ ev * (k : Int) * 1440 := Int.mul_nonneg hk0 (by omega)
    omega
  simp [h1, h2]
theorem dayR_candT (ev ct un s : Int) (n : Nat) (hr : recB (dayR ev ct un) = true) (s0 : 0 ≤ s) (hd : s / 1440 + ev * ((n : Int) - 1) < 36525) : candT (dayR ev ct un) s n = (List.range n).map fun (i : Nat) => s + ev * i * 1440 := by
  have e := recB_ev _ hr
  simp only at e
  induction n with
  | zero => rfl
  | succ n ih =>
    have h : ev * ((n : Int) - 1) ≤ ev * n := Int.mul_le_mul_of_nonneg_left (by omega) (by omega)
    rw [show ((n + 1 : Nat) : Int) - 1 = n by omega] at hd
    rw [candT_succ, ih (by omega), dayR_candK ev ct un s n hr s0 hd, List.range_succ, List.map_append]
    rfl
/-- Count says how often. -/
theorem dayR_count (ev s : Int) (n : Nat) (hr : recB (dayR ev n (-1)) = true) (hn : 0 < n) (s0 : 0 ≤ s) (hd : s / 1440 + ev * ((n : Int) - 1) < 36525) : allL (dayR ev n (-1)) s = (List.range n).map fun (i : Nat) => s + ev * i * 1440 := by
  have e := recB_ev _ hr
  simp only at e
  have f : ev * ((n : Int) - 1) ≥ 1 * ((n : Int) - 1) := Int.mul_le_mul_of_nonneg_right e.1 (by omega)
  obtain ⟨t, ht, _⟩ := cand_split (dayR ev n (-1)) s n (by omega)
  have hc : capN (dayR ev n (-1)) = n := by unfold capN; rw [if_pos (by show 0 < (n : Int); omega)]; show ((n : Int)).toNat = n; omega
  rw [← dayR_candT ev n (-1) s n hr s0 hd]
  have hl : (candT (dayR ev n (-1)) s n).length = n := by rw [dayR_candT ev n (-1) s n hr s0 hd]; simp
  exact all_is _ _ _ t ht (fun m _ => keepU_lo _ _ (by show (-1 : Int) < 0; omega)) (by rw [hl, hc]; exact Nat.le_refl _) (Or.inr (Or.inl (by rw [hl, hc])))
/-- neither Count nor Until: as many as may be, and one. -/
theorem dayR_ever (ev s : Int) (hr : recB (dayR ev 0 (-1)) = true) (s0 : 0 ≤ s) (hd : s / 1440 + ev * 40 < 36525) : (allL (dayR ev 0 (-1)) s).length = 41 := by
  obtain ⟨t, ht, _⟩ := cand_split (dayR ev 0 (-1)) s 41 (by omega)
  have hc : capN (dayR ev 0 (-1)) = 41 := by unfold capN; rw [if_neg (by show ¬ (0 : Int) < 0; omega)]
  have e := dayR_candT ev 0 (-1) s 41 hr s0 (by rw [show ((41 : Nat) : Int) - 1 = 40 from rfl]; exact hd)
  have hl : (candT (dayR ev 0 (-1)) s 41).length = 41 := by rw [e]; simp
  rw [all_is _ _ _ t ht (fun m _ => keepU_lo _ _ (by show (-1 : Int) < 0; omega)) (by rw [hl, hc]; exact Nat.le_refl _) (Or.inr (Or.inl (by rw [hl, hc]))), hl]

end Go.Proofs.Ytdmplojfidkipaa.Rul

/- What the statements of layer 6 ask of known inputs: no word of a program. -/
namespace Go.Proofs.Ytdmplojfidkipaa.Rul
open Go.Proofs.Ytdmplojfidkipaa

theorem isB_of_rec (r : T) (h : recB r = true) : isB r = true := by unfold isB; rw [h, Bool.or_true]
theorem startsE_ok (r : T) (s : Int) (ex l o : List Int) (h : recB r = true) (h1 : 0 ≤ s) (h2 : s < 52596000) (hl : allL r s = l) (hn : l.length ≤ 40) (ho : (l.filter fun m => !outB ex m) = o) (hne : o ≠ []) : startsE r s ex = (o, 0) := by
  have f := recB_fr r h
  unfold startsE
  rw [if_neg (by rw [isB_of_rec r h]; simp), if_neg (by omega), if_neg (show r.fr ≠ 0 by omega), hl, if_neg (by omega), ho, if_neg hne]
theorem startsE_empty (r : T) (s : Int) (ex l : List Int) (h : recB r = true) (h1 : 0 ≤ s) (h2 : s < 52596000) (hl : allL r s = l) (hn : l.length ≤ 40) (ho : (l.filter fun m => !outB ex m) = []) : startsE r s ex = ([], 23) := by
  have f := recB_fr r h
  unfold startsE
  rw [if_neg (by rw [isB_of_rec r h]; simp), if_neg (by omega), if_neg (show r.fr ≠ 0 by omega), hl, if_neg (by omega), ho, if_pos rfl]
theorem startsE_many (r : T) (s : Int) (ex : List Int) (h : recB r = true) (h1 : 0 ≤ s) (h2 : s < 52596000) (hl : 40 < (allL r s).length) : startsE r s ex = ([], 13) := by
  have f := recB_fr r h
  unfold startsE
  rw [if_neg (by rw [isB_of_rec r h]; simp), if_neg (by omega), if_neg (show r.fr ≠ 0 by omega), if_pos hl]
theorem spansE_ok (r : T) (s g : Int) (ex l : List Int) (h : recB r = true) (h1 : 0 ≤ s) (h2 : s < 52596000) (hg1 : 1 ≤ g) (hg2 : g ≤ 10080) (hS : startsE r s ex = (l, 0)) (ha : ∀ m ∈ l, m + g ≤ 52596000) : spansE r s g ex = (l.map fun m => (m, m + g), 0) := by
  unfold spansE
  rw [if_neg (by rw [isB_of_rec r h]; simp), if_neg (by omega), if_neg (by omega), hS, if_neg (by simp), if_neg]
  rw [Bool.not_eq_false, List.all_eq_true]; exact fun m hm => decide_eq_true (ha m hm)
theorem spansE_late (r : T) (s g : Int) (ex l : List Int) (m : Int) (h : recB r = true) (h1 : 0 ≤ s) (h2 : s < 52596000) (hg1 : 1 ≤ g) (hg2 : g ≤ 10080) (hS : startsE r s ex = (l, 0)) (hm : m ∈ l) (hlt : 52596000 < m + g) : spansE r s g ex = ([], 10) := by
  unfold spansE
  rw [if_neg (by rw [isB_of_rec r h]; simp), if_neg (by omega), if_neg (by omega), hS, if_neg (by simp), if_pos]
  rw [List.all_eq_false]; exact ⟨m, hm, by simp; omega⟩
theorem filter_none (l : List Int) : (l.filter fun m => !outB [] m) = l := List.filter_eq_self.2 fun _ _ => rfl

/-- daily rules with Count alone: nothing left out. -/
theorem daily_starts (ev s : Int) (n : Nat) (e1 : 1 ≤ ev) (e2 : ev ≤ 100) (hn : 0 < n) (hn2 : n ≤ 40) (s0 : 0 ≤ s) (hd : s / 1440 + ev * ((n : Int) - 1) < 36525) :
    startsE (dayR ev n (-1)) s [] = ((List.range n).map fun (i : Nat) => s + ev * i * 1440, 0) := by
  have hr := dayR_rec ev n (-1) e1 e2 (by omega) (by omega) (by omega) (by omega) (Or.inr rfl)
  have f : 1 * ((n : Int) - 1) ≤ ev * ((n : Int) - 1) := Int.mul_le_mul_of_nonneg_right e1 (by omega)
  refine startsE_ok _ s [] _ _ hr s0 (by omega) (dayR_count ev s n hr hn s0 hd) (by simp; omega) (filter_none _) ?_
  intro hc
  have := congrArg List.length hc
  simp at this
  omega
theorem k_daily (n : Nat) (s : Int) (hn : 0 < n) (hn2 : n ≤ 3) (hs : 0 ≤ s ∧ s < 1440) : allL (dayR 1 n (-1)) s = (List.range n).map fun (i : Nat) => s + 1 * i * 1440 :=
  dayR_count 1 s n (dayR_rec 1 n (-1) (by omega) (by omega) (by omega) (by omega) (by omega) (by omega) (Or.inr rfl)) hn hs.1 (by omega)
theorem k_1 : startsE (dayR 1 3 (-1)) 90 [1530] = ([90, 2970], 0) :=
  startsE_ok _ 90 [1530] [90, 1530, 2970] _ (by decide +kernel) (by omega) (by omega) ((k_daily 3 90 (by omega) (by omega) (by omega)).trans rfl) (by decide) (by decide) (by decide)
theorem k_2 : startsE ⟨0, 0, 0, 0, [], [], []⟩ 0 [] = ([], 12) := by unfold startsE; rw [if_pos (by decide +kernel)]
theorem k_3 : startsE (dayR 1 0 (-1)) 0 [] = ([], 13) :=
  startsE_many _ 0 [] (by decide +kernel) (by omega) (by omega) (by rw [dayR_ever 1 0 (by decide +kernel) (by omega) (by omega)]; omega)
theorem k_4 : startsE (dayR 1 1 (-1)) 90 [90] = ([], 23) :=
  startsE_empty _ 90 [90] [90] (by decide +kernel) (by omega) (by omega) ((k_daily 1 90 (by omega) (by omega) (by omega)).trans rfl) (by decide) (by decide)
theorem k_5s : startsE (dayR 1 2 (-1)) 90 [] = ([90, 1530], 0) :=
  startsE_ok _ 90 [] [90, 1530] _ (by decide +kernel) (by omega) (by omega) ((k_daily 2 90 (by omega) (by omega) (by omega)).trans rfl) (by decide) (by decide) (by decide)
theorem k_5 : spansE (dayR 1 2 (-1)) 90 30 [] = ([(90, 120), (1530, 1560)], 0) :=
  spansE_ok _ 90 30 [] [90, 1530] (by decide +kernel) (by omega) (by omega) (by omega) (by omega) k_5s (by intro m hm; simp at hm; omega)
theorem k_6 : spansE (dayR 1 2 (-1)) 90 0 [] = ([], 15) := by
  unfold spansE; rw [if_neg (by decide +kernel), if_neg (by omega), if_pos (by omega)]

end Go.Proofs.Ytdmplojfidkipaa.Rul

/- Plain facts for ExpandMany: as often as may be, and once more; up to the end of all days. -/
namespace Go.Proofs.Ytdmplojfidkipaa.Rul
open Go.Proofs.Ytdmplojfidkipaa

theorem many_all (ev un : Int) (n : Nat) (e1 : 1 ≤ ev) (e2 : ev ≤ 20) (n1 : 1 ≤ n) (n2 : n ≤ 41) (hu : ((n : Int) - 1) * (ev * 1440) + 5 = un) : recB (dayR ev 0 un) = true ∧ allL (dayR ev 0 un) 5 = (List.range n).map fun (i : Nat) => 5 + ev * i * 1440 := by
  have f0 : 0 ≤ ((n : Int) - 1) * ev := Int.mul_nonneg (by omega) (by omega)
  have f1 : ((n : Int) - 1) * ev ≤ ((n : Int) - 1) * 20 := Int.mul_le_mul_of_nonneg_left e2 (by omega)
  have hu2 : un = ((n : Int) - 1) * ev * 1440 + 5 := by rw [← hu, Int.mul_assoc]
  have hr : recB (dayR ev 0 un) = true := dayR_rec ev 0 un (by omega) (by omega) (by omega) (by omega) (by omega) (by omega) (Or.inl rfl)
  have f2 : ev * (n : Int) = ((n : Int) - 1) * ev + ev := by rw [Int.sub_mul, Int.one_mul, Int.mul_comm]; omega
  have f3 : ev * ((n : Int) - 1) = ((n : Int) - 1) * ev := Int.mul_comm _ _
  have hT := dayR_candT ev 0 un 5 n hr (by omega) (by rw [f3]; omega)
  refine ⟨hr, ?_⟩
  have hd := dayR_days ev 0 un (5 / 1440) n hr (by omega) (by rw [f2]; omega)
  have hA : perA (dayR ev 0 un) (5 / 1440) n = ev * n := by
    unfold perA; rw [if_pos hd.1]; show max (pA 1 (5 / 1440) (ev * n)) 0 = _; rw [pA_1, f2]; omega
  have hc : capN (dayR ev 0 un) = 41 := by unfold capN; rw [if_neg (by show ¬ (0 : Int) < 0; omega)]
  rw [← hT]
  refine all_past _ 5 n (by omega) hd.1 (by show 0 ≤ un; omega) (by rw [hA, f2]; show un < _; omega) (fun m hm => ?_) (by rw [hT, hc]; simp; exact n2)
  rw [hT, List.mem_map] at hm
  obtain ⟨i, hi, rfl⟩ := hm
  rw [List.mem_range] at hi
  have g : (i : Int) * ev ≤ ((n : Int) - 1) * ev := Int.mul_le_mul_of_nonneg_right (by omega) (by omega)
  exact keepU_hi _ _ (by show 5 + ev * (i : Int) * 1440 ≤ un; rw [Int.mul_comm ev]; omega)
theorem late_1s : startsE (dayR 1 1 (-1)) 52595990 [] = ([52595990], 0) :=
  startsE_ok _ 52595990 [] [52595990] _ (by decide +kernel) (by omega) (by omega) ((dayR_count 1 52595990 1 (by decide +kernel) (by omega) (by omega) (by omega)).trans rfl) (by decide) (by decide) (by decide)
theorem late_1 : spansE (dayR 1 1 (-1)) 52595990 11 [] = ([], 10) :=
  spansE_late _ _ _ _ _ 52595990 (by decide +kernel) (by omega) (by omega) (by omega) (by omega) late_1s (by simp) (by omega)
theorem late_5a : allL (dayR 1 5 (-1)) 52595990 = [52595990] := by
  have hr : recB (dayR 1 5 (-1)) = true := by decide +kernel
  have hT : candT (dayR 1 5 (-1)) 52595990 1 = [52595990] := (dayR_candT 1 5 (-1) 52595990 1 hr (by omega) (by omega)).trans rfl
  have hK : perK (dayR 1 5 (-1)) (52595990 / 1440) (1 : Nat) = false := by rw [Bool.eq_false_iff]; intro hc; have := ((perK_iff _ _ _).1 hc).2.2.2; rw [show pA (dayR 1 5 (-1)).fr (52595990 / 1440) ((dayR 1 5 (-1)).ev * ((1 : Nat) : Int)) = 36525 from by decide +kernel] at this; omega
  rw [← hT]
  exact all_none _ _ 1 (by omega) hK (fun m _ => keepU_lo _ _ (by show (-1 : Int) < 0; omega)) (by rw [hT]; decide)
theorem late_5s : startsE (dayR 1 5 (-1)) 52595990 [] = ([52595990], 0) :=
  startsE_ok _ 52595990 [] [52595990] _ (by decide +kernel) (by omega) (by omega) late_5a (by decide) (by decide) (by decide)
theorem late_5 : spansE (dayR 1 5 (-1)) 52595990 10 [] = ([(52595990, 52596000)], 0) :=
  spansE_ok _ _ _ _ [52595990] (by decide +kernel) (by omega) (by omega) (by omega) (by omega) late_5s (by intro m hm; simp at hm; omega)
/-- what ExpandMany asks of its first rule. -/
theorem many_starts (ev un : Int) (n : Nat) (e1 : 1 ≤ ev) (e2 : ev ≤ 20) (n1 : 39 ≤ n) (n2 : n ≤ 41) (hu : ((n : Int) - 1) * (ev * 1440) + 5 = un) :
    (40 < n → startsE (dayR ev 0 un) 5 [] = ([], 13)) ∧ (n ≤ 40 → startsE (dayR ev 0 un) 5 [] = ((List.range n).map fun (i : Nat) => 5 + ev * i * 1440, 0)) := by
  obtain ⟨hr, ha⟩ := many_all ev un n e1 e2 (by omega) n2 hu
  refine ⟨fun h => startsE_many _ 5 [] hr (by omega) (by omega) (by rw [ha]; simp; exact h), fun h => ?_⟩
  refine startsE_ok _ 5 [] _ _ hr (by omega) (by omega) ha (by simp; exact h) (filter_none _) ?_
  intro hc
  have := congrArg List.length hc
  simp at this
  omega

end Go.Proofs.Ytdmplojfidkipaa.Rul

/- Plain facts of ExpandExcept: some of a daily rule's minutes left out. -/
namespace Go.Proofs.Ytdmplojfidkipaa.Rul
open Go.Proofs.Ytdmplojfidkipaa

/-- those of the first j days' minutes of which p says so. -/
def exL (p : Nat → Bool) (s : Int) (j : Nat) : List Int := ((List.range j).filter p).map fun (i : Nat) => s + (i : Int) * 1440
theorem exL_yes (p : Nat → Bool) (s : Int) (j : Nat) (h : p j = true) : exL p s (j + 1) = exL p s j ++ [s + (j : Int) * 1440] := by
  unfold exL; rw [List.range_succ, List.filter_append, List.filter_cons, h, List.map_append]; rfl
theorem exL_no (p : Nat → Bool) (s : Int) (j : Nat) (h : p j = false) : exL p s (j + 1) = exL p s j := by
  unfold exL; rw [List.range_succ, List.filter_append, List.filter_cons, h]; simp
theorem exL_len (p : Nat → Bool) (s : Int) (j : Nat) : (exL p s j).length ≤ j := by
  unfold exL; rw [List.length_map]
  have := List.length_filter_le p (List.range j)
  rw [List.length_range] at this; exact this
theorem outB_mem (ex : List Int) (m : Int) : outB ex m = true ↔ m ∈ ex := by
  unfold outB; rw [List.any_eq_true]
  exact ⟨fun ⟨x, hx, h⟩ => by rw [beq_iff_eq] at h; exact h ▸ hx, fun h => ⟨m, h, by simp⟩⟩
theorem outB_exL (p : Nat → Bool) (s : Int) (k i : Nat) (h : i < k) : outB (exL p s k) (s + 1 * (i : Int) * 1440) = p i := by
  rw [Bool.eq_iff_iff, outB_mem]
  unfold exL
  rw [List.mem_map]
  refine ⟨fun ⟨j, hj, e⟩ => ?_, fun hp => ⟨i, List.mem_filter.2 ⟨List.mem_range.2 h, hp⟩, by omega⟩⟩
  obtain rfl : j = i := by omega
  exact (List.mem_filter.1 hj).2
theorem exc_left (p : Nat → Bool) (s : Int) (k : Nat) : (((List.range k).map fun (i : Nat) => s + 1 * (i : Int) * 1440).filter fun m => !outB (exL p s k) m) = exL (fun i => !p i) s k := by
  rw [List.filter_map]
  unfold exL
  have : (List.range k).filter ((fun m => !outB (List.map (fun (i : Nat) => s + (i : Int) * 1440) ((List.range k).filter p)) m) ∘ fun (i : Nat) => s + 1 * (i : Int) * 1440) = (List.range k).filter fun i => !p i := by
    refine List.filter_congr fun i hi => ?_
    show (!outB (exL p s k) (s + 1 * (i : Int) * 1440)) = !p i
    rw [outB_exL p s k i (List.mem_range.1 hi)]
  rw [this]
  refine List.map_congr_left fun i _ => ?_
  omega
theorem exc_starts (p : Nat → Bool) (s : Int) (k : Nat) (hk : 0 < k) (hk2 : k ≤ 40) (s0 : 0 ≤ s) (s1 : s < 26298000) :
    (exL (fun i => !p i) s k = [] → startsE (dayR 1 k (-1)) s (exL p s k) = ([], 23)) ∧ (exL (fun i => !p i) s k ≠ [] → startsE (dayR 1 k (-1)) s (exL p s k) = (exL (fun i => !p i) s k, 0)) := by
  have hr := dayR_rec 1 k (-1) (by omega) (by omega) (by omega) (by omega) (by omega) (by omega) (Or.inr rfl)
  have ha := dayR_count 1 s k hr hk s0 (by omega)
  refine ⟨fun h => startsE_empty _ s _ _ hr s0 (by omega) ha (by simp; omega) ((exc_left p s k).trans h), fun h => startsE_ok _ s _ _ _ hr s0 (by omega) ha (by simp; omega) (exc_left p s k) h⟩

end Go.Proofs.Ytdmplojfidkipaa.Rul

/- Put together: ExMathB ExMathC ExMathD ExMathF ExMathG ExMathH ExMathI ExMathJ. -/
import Derived.Test.YtdmplojfidkipaaExMath
import Derived.Test.YtdmplojfidkipaaRuR
import Derived.Test.YtdmplojfidkipaaCivH

/- Plain facts of daily rules: their minutes are added up. -/
namespace Go.Proofs.Ytdmplojfidkipaa.Rul
open Go.Proofs.Ytdmplojfidkipaa

/-- a daily rule without lists. -/
abbrev dayR (ev ct un : Int) : T := ⟨1, ev, ct, un, [], [], []⟩
theorem dayR_rec (ev ct un : Int) (h1 : 1 ≤ ev) (h2 : ev ≤ 100) (h3 : 0 ≤ ct) (h4 : ct ≤ 40) (h5 : -1 ≤ un) (h6 : un ≤ 52595999) (h7 : ct = 0 ∨ un = -1) : recB (dayR ev ct un) = true := by
  have a : rngB 1 ev ct un = true := by
    unfold rngB
    rw [(btw_iff _ _ _).2 ⟨by omega, by omega⟩, (btw_iff _ _ _).2 ⟨h1, h2⟩, (btw_iff _ _ _).2 ⟨h3, h4⟩, (btw_iff _ _ _).2 ⟨h5, h6⟩]
    rcases h7 with g | g
    · rw [g]; rfl
    · rw [g]; simp
  rw [recB_is, a]; rfl
theorem dayR_days (ev ct un d : Int) (k : Nat) (hr : recB (dayR ev ct un) = true) (d0 : 0 ≤ d) (hd : d + ev * k < 36525) : perK (dayR ev ct un) d k = true ∧ daysL (dayR ev ct un) d k = [d + ev * k] := by
  have e := recB_ev _ hr
  simp only at e
  have hk0 : 0 ≤ ev * (k : Int) := Int.mul_nonneg (by omega) (by omega)
  have hk1 : 1 * (k : Int) ≤ ev * k := Int.mul_le_mul_of_nonneg_right e.1 (by omega)
  have hK : perK (dayR ev ct un) d k = true := (perK_iff _ _ _).2 ⟨⟨d0, by omega⟩, hr, ⟨by omega, by omega⟩, by show pA 1 d (ev * k) < 36525; rw [pA_1]; exact hd⟩
  refine ⟨hK, ?_⟩
  have ea : perA (dayR ev ct un) d k = d + ev * k := by unfold perA; rw [if_pos hK]; show max (pA 1 d (ev * k)) 0 = _; rw [pA_1]; omega
  have eb : perB (dayR ev ct un) d k = d + ev * k + 1 := by unfold perB; rw [if_pos hK]; show min (pB 1 d (ev * k)) 36525 = _; rw [pB_1]; omega
  have ho : ofB (dayR ev ct un) d (d + ev * k) = true := by
    have hf : fitsB (dayR ev ct un) (d + ev * k) = true := by
      unfold fitsB dayB; rw [hr, decide_eq_true (show 0 ≤ d + ev * k ∧ d + ev * k < 36525 from ⟨by omega, hd⟩)]; rfl
    unfold ofB
    rw [hf, Bool.and_true]
    simp [hasB, wkA, dyA, moA]
  rw [daysL_yes _ _ _ hK, ea, eb, upto_succ _ _ (Int.le_refl _), upto_nil, List.nil_append, List.filter_cons, ho]
  simp
theorem dayR_candK (ev ct un s : Int) (k : Nat) (hr : recB (dayR ev ct un) = true) (s0 : 0 ≤ s) (hd : s / 1440 + ev * k < 36525) : candK (dayR ev ct un) s k = [s + ev * k * 1440] := by
  have e := recB_ev _ hr
  simp only at e
  have hk0 : 0 ≤ ev * (k : Int) := Int.mul_nonneg (by omega) (by omega)
  unfold candK
  rw [(dayR_days ev ct un (s / 1440) k hr (by omega) hd).2]
  have h1 : (s / 1440 + ev * k) * 1440 + s % 1440 = s + ev * k * 1440 := by rw [Int.add_mul]; omega
  have h2 : s ≤ s + ev * k * 1440 := by
    have : 0 ≤ ev * (k : Int) * 1440 := Int.mul_nonneg hk0 (by omega)
    omega
  simp [h1, h2]
theorem dayR_candT (ev ct un s : Int) (n : Nat) (hr : recB (dayR ev ct un) = true) (s0 : 0 ≤ s) (hd : s / 1440 + ev * ((n : Int) - 1) < 36525) : candT (dayR ev ct un) s n = (List.range n).map fun (i : Nat) => s + ev * i * 1440 := by
  have e := recB_ev _ hr
  simp only at e
  induction n with
  | zero => rfl
  | succ n ih =>
    have h : ev * ((n : Int) - 1) ≤ ev * n := Int.mul_le_mul_of_nonneg_left (by omega) (by omega)
    rw [show ((n + 1 : Nat) : Int) - 1 = n by omega] at hd
    rw [candT_succ, ih (by omega), dayR_candK ev ct un s n hr s0 hd, List.range_succ, List.map_append]
    rfl
/-- Count says how often. -/
theorem dayR_count (ev s : Int) (n : Nat) (hr : recB (dayR ev n (-1)) = true) (hn : 0 < n) (s0 : 0 ≤ s) (hd : s / 1440 + ev * ((n : Int) - 1) < 36525) : allL (dayR ev n (-1)) s = (List.range n).map fun (i : Nat) => s + ev * i * 1440 := by
  have e := recB_ev _ hr
  simp only at e
  have f : ev * ((n : Int) - 1) ≥ 1 * ((n : Int) - 1) := Int.mul_le_mul_of_nonneg_right e.1 (by omega)
  obtain ⟨t, ht, _⟩ := cand_split (dayR ev n (-1)) s n (by omega)
  have hc : capN (dayR ev n (-1)) = n := by unfold capN; rw [if_pos (by show 0 < (n : Int); omega)]; show ((n : Int)).toNat = n; omega
  rw [← dayR_candT ev n (-1) s n hr s0 hd]
  have hl : (candT (dayR ev n (-1)) s n).length = n := by rw [dayR_candT ev n (-1) s n hr s0 hd]; simp
  exact all_is _ _ _ t ht (fun m _ => keepU_lo _ _ (by show (-1 : Int) < 0; omega)) (by rw [hl, hc]; exact Nat.le_refl _) (Or.inr (Or.inl (by rw [hl, hc])))
/-- neither Count nor Until: as many as may be, and one. -/
theorem dayR_ever (ev s : Int) (hr : recB (dayR ev 0 (-1)) = true) (s0 : 0 ≤ s) (hd : s / 1440 + ev * 40 < 36525) : (allL (dayR ev 0 (-1)) s).length = 41 := by
  obtain ⟨t, ht, _⟩ := cand_split (dayR ev 0 (-1)) s 41 (by omega)
  have hc : capN (dayR ev 0 (-1)) = 41 := by unfold capN; rw [if_neg (by show ¬ (0 : Int) < 0; omega)]
  have e := dayR_candT ev 0 (-1) s 41 hr s0 (by rw [show ((41 : Nat) : Int) - 1 = 40 from rfl]; exact hd)
  have hl : (candT (dayR ev 0 (-1)) s 41).length = 41 := by rw [e]; simp
  rw [all_is _ _ _ t ht (fun m _ => keepU_lo _ _ (by show (-1 : Int) < 0; omega)) (by rw [hl, hc]; exact Nat.le_refl _) (Or.inr (Or.inl (by rw [hl, hc]))), hl]

end Go.Proofs.Ytdmplojfidkipaa.Rul

/- What the statements of layer 6 ask of known inputs: no word of a program. -/
namespace Go.Proofs.Ytdmplojfidkipaa.Rul
open Go.Proofs.Ytdmplojfidkipaa

theorem isB_of_rec (r : T) (h : recB r = true) : isB r = true := by unfold isB; rw [h, Bool.or_true]
theorem startsE_ok (r : T) (s : Int) (ex l o : List Int) (h : recB r = true) (h1 : 0 ≤ s) (h2 : s < 52596000) (hl : allL r s = l) (hn : l.length ≤ 40) (ho : (l.filter fun m => !outB ex m) = o) (hne : o ≠ []) : startsE r s ex = (o, 0) := by
  have f := recB_fr r h
  unfold startsE
  rw [if_neg (by rw [isB_of_rec r h]; simp), if_neg (by omega), if_neg (show r.fr ≠ 0 by omega), hl, if_neg (by omega), ho, if_neg hne]
theorem startsE_empty (r : T) (s : Int) (ex l : List Int) (h : recB r = true) (h1 : 0 ≤ s) (h2 : s < 52596000) (hl : allL r s = l) (hn : l.length ≤ 40) (ho : (l.filter fun m => !outB ex m) = []) : startsE r s ex = ([], 23) := by
  have f := recB_fr r h
  unfold startsE
  rw [if_neg (by rw [isB_of_rec r h]; simp), if_neg (by omega), if_neg (show r.fr ≠ 0 by omega), hl, if_neg (by omega), ho, if_pos rfl]
theorem startsE_many (r : T) (s : Int) (ex : List Int) (h : recB r = true) (h1 : 0 ≤ s) (h2 : s < 52596000) (hl : 40 < (allL r s).length) : startsE r s ex = ([], 13) := by
  have f := recB_fr r h
  unfold startsE
  rw [if_neg (by rw [isB_of_rec r h]; simp), if_neg (by omega), if_neg (show r.fr ≠ 0 by omega), if_pos hl]
theorem spansE_ok (r : T) (s g : Int) (ex l : List Int) (h : recB r = true) (h1 : 0 ≤ s) (h2 : s < 52596000) (hg1 : 1 ≤ g) (hg2 : g ≤ 10080) (hS : startsE r s ex = (l, 0)) (ha : ∀ m ∈ l, m + g ≤ 52596000) : spansE r s g ex = (l.map fun m => (m, m + g), 0) := by
  unfold spansE
  rw [if_neg (by rw [isB_of_rec r h]; simp), if_neg (by omega), if_neg (by omega), hS, if_neg (by simp), if_neg]
  rw [Bool.not_eq_false, List.all_eq_true]; exact fun m hm => decide_eq_true (ha m hm)
theorem spansE_late (r : T) (s g : Int) (ex l : List Int) (m : Int) (h : recB r = true) (h1 : 0 ≤ s) (h2 : s < 52596000) (hg1 : 1 ≤ g) (hg2 : g ≤ 10080) (hS : startsE r s ex = (l, 0)) (hm : m ∈ l) (hlt : 52596000 < m + g) : spansE r s g ex = ([], 10) := by
  unfold spansE
  rw [if_neg (by rw [isB_of_rec r h]; simp), if_neg (by omega), if_neg (by omega), hS, if_neg (by simp), if_pos]
  rw [List.all_eq_false]; exact ⟨m, hm, by simp; omega⟩
theorem filter_none (l : List Int) : (l.filter fun m => !outB [] m) = l := List.filter_eq_self.2 fun _ _ => rfl

/-- daily rules with Count alone: nothing left out. -/
theorem daily_starts (ev s : Int) (n : Nat) (e1 : 1 ≤ ev) (e2 : ev ≤ 100) (hn : 0 < n) (hn2 : n ≤ 40) (s0 : 0 ≤ s) (hd : s / 1440 + ev * ((n : Int) - 1) < 36525) :
    startsE (dayR ev n (-1)) s [] = ((List.range n).map fun (i : Nat) => s + ev * i * 1440, 0) := by
  have hr := dayR_rec ev n (-1) e1 e2 (by omega) (by omega) (by omega) (by omega) (Or.inr rfl)
  have f : 1 * ((n : Int) - 1) ≤ ev * ((n : Int) - 1) := Int.mul_le_mul_of_nonneg_right e1 (by omega)
  refine startsE_ok _ s [] _ _ hr s0 (by omega) (dayR_count ev s n hr hn s0 hd) (by simp; omega) (filter_none _) ?_
  intro hc
  have := congrArg List.length hc
  simp at this
  omega
theorem k_daily (n : Nat) (s : Int) (hn : 0 < n) (hn2 : n ≤ 3) (hs : 0 ≤ s ∧ s < 1440) : allL (dayR 1 n (-1)) s = (List.range n).map fun (i : Nat) => s + 1 * i * 1440 :=
  dayR_count 1 s n (dayR_rec 1 n (-1) (by omega) (by omega) (by omega) (by omega) (by omega) (by omega) (Or.inr rfl)) hn hs.1 (by omega)
theorem k_1 : startsE (dayR 1 3 (-1)) 90 [1530] = ([90, 2970], 0) :=
  startsE_ok _ 90 [1530] [90, 1530, 2970] _ (by decide +kernel) (by omega) (by omega) ((k_daily 3 90 (by omega) (by omega) (by omega)).trans rfl) (by decide) (by decide) (by decide)
theorem k_2 : startsE ⟨0, 0, 0, 0, [], [], []⟩ 0 [] = ([], 12) := by unfold startsE; rw [if_pos (by decide +kernel)]
theorem k_3 : startsE (dayR 1 0 (-1)) 0 [] = ([], 13) :=
  startsE_many _ 0 [] (by decide +kernel) (by omega) (by omega) (by rw [dayR_ever 1 0 (by decide +kernel) (by omega) (by omega)]; omega)
theorem k_4 : startsE (dayR 1 1 (-1)) 90 [90] = ([], 23) :=
  startsE_empty _ 90 [90] [90] (by decide +kernel) (by omega) (by omega) ((k_daily 1 90 (by omega) (by omega) (by omega)).trans rfl) (by decide) (by decide)
theorem k_5s : startsE (dayR 1 2 (-1)) 90 [] = ([90, 1530], 0) :=
  startsE_ok _ 90 [] [90, 1530] _ (by decide +kernel) (by omega) (by omega) ((k_daily 2 90 (by omega) (by omega) (by omega)).trans rfl) (by decide) (by decide) (by decide)
theorem k_5 : spansE (dayR 1 2 (-1)) 90 30 [] = ([(90, 120), (1530, 1560)], 0) :=
  spansE_ok _ 90 30 [] [90, 1530] (by decide +kernel) (by omega) (by omega) (by omega) (by omega) k_5s (by intro m hm; simp at hm; omega)
theorem k_6 : spansE (dayR 1 2 (-1)) 90 0 [] = ([], 15) := by
  unfold spansE; rw [if_neg (by decide +kernel), if_neg (by omega), if_pos (by omega)]

end Go.Proofs.Ytdmplojfidkipaa.Rul

/- Plain facts for ExpandMany: as often as may be, and once more; up to the end of all days. -/
namespace Go.Proofs.Ytdmplojfidkipaa.Rul
open Go.Proofs.Ytdmplojfidkipaa

theorem many_all (ev un : Int) (n : Nat) (e1 : 1 ≤ ev) (e2 : ev ≤ 20) (n1 : 1 ≤ n) (n2 : n ≤ 41) (hu : ((n : Int) - 1) * (ev * 1440) + 5 = un) : recB (dayR ev 0 un) = true ∧ allL (dayR ev 0 un) 5 = (List.range n).map fun (i : Nat) => 5 + ev * i * 1440 := by
  have f0 : 0 ≤ ((n : Int) - 1) * ev := Int.mul_nonneg (by omega) (by omega)
  have f1 : ((n : Int) - 1) * ev ≤ ((n : Int) - 1) * 20 := Int.mul_le_mul_of_nonneg_left e2 (by omega)
  have hu2 : un = ((n : Int) - 1) * ev * 1440 + 5 := by rw [← hu, Int.mul_assoc]
  have hr : recB (dayR ev 0 un) = true := dayR_rec ev 0 un (by omega) (by omega) (by omega) (by omega) (by omega) (by omega) (Or.inl rfl)
  have f2 : ev * (n : Int) = ((n : Int) - 1) * ev + ev := by rw [Int.sub_mul, Int.one_mul, Int.mul_comm]; omega
  have f3 : ev * ((n : Int) - 1) = ((n : Int) - 1) * ev := Int.mul_comm _ _
  have hT := dayR_candT ev 0 un 5 n hr (by omega) (by rw [f3]; omega)
  refine ⟨hr, ?_⟩
  have hd := dayR_days ev 0 un (5 / 1440) n hr (by omega) (by rw [f2]; omega)
  have hA : perA (dayR ev 0 un) (5 / 1440) n = ev * n := by
    unfold perA; rw [if_pos hd.1]; show max (pA 1 (5 / 1440) (ev * n)) 0 = _; rw [pA_1, f2]; omega
  have hc : capN (dayR ev 0 un) = 41 := by unfold capN; rw [if_neg (by show ¬ (0 : Int) < 0; omega)]
  rw [← hT]
  refine all_past _ 5 n (by omega) hd.1 (by show 0 ≤ un; omega) (by rw [hA, f2]; show un < _; omega) (fun m hm => ?_) (by rw [hT, hc]; simp; exact n2)
  rw [hT, List.mem_map] at hm
  obtain ⟨i, hi, rfl⟩ := hm
  rw [List.mem_range] at hi
  have g : (i : Int) * ev ≤ ((n : Int) - 1) * ev := Int.mul_le_mul_of_nonneg_right (by omega) (by omega)
  exact keepU_hi _ _ (by show 5 + ev * (i : Int) * 1440 ≤ un; rw [Int.mul_comm ev]; omega)
theorem late_1s : startsE (dayR 1 1 (-1)) 52595990 [] = ([52595990], 0) :=
  startsE_ok _ 52595990 [] [52595990] _ (by decide +kernel) (by omega) (by omega) ((dayR_count 1 52595990 1 (by decide +kernel) (by omega) (by omega) (by omega)).trans rfl) (by decide) (by decide) (by decide)
theorem late_1 : spansE (dayR 1 1 (-1)) 52595990 11 [] = ([], 10) :=
  spansE_late _ _ _ _ _ 52595990 (by decide +kernel) (by omega) (by omega) (by omega) (by omega) late_1s (by simp) (by omega)
theorem late_5a : allL (dayR 1 5 (-1)) 52595990 = [52595990] := by
  have hr : recB (dayR 1 5 (-1)) = true := by decide +kernel
  have hT : candT (dayR 1 5 (-1)) 52595990 1 = [52595990] := (dayR_candT 1 5 (-1) 52595990 1 hr (by omega) (by omega)).trans rfl
  have hK : perK (dayR 1 5 (-1)) (52595990 / 1440) (1 : Nat) = false := by rw [Bool.eq_false_iff]; intro hc; have := ((perK_iff _ _ _).1 hc).2.2.2; rw [show pA (dayR 1 5 (-1)).fr (52595990 / 1440) ((dayR 1 5 (-1)).ev * ((1 : Nat) : Int)) = 36525 from by decide +kernel] at this; omega
  rw [← hT]
  exact all_none _ _ 1 (by omega) hK (fun m _ => keepU_lo _ _ (by show (-1 : Int) < 0; omega)) (by rw [hT]; decide)
theorem late_5s : startsE (dayR 1 5 (-1)) 52595990 [] = ([52595990], 0) :=
  startsE_ok _ 52595990 [] [52595990] _ (by decide +kernel) (by omega) (by omega) late_5a (by decide) (by decide) (by decide)
theorem late_5 : spansE (dayR 1 5 (-1)) 52595990 10 [] = ([(52595990, 52596000)], 0) :=
  spansE_ok _ _ _ _ [52595990] (by decide +kernel) (by omega) (by omega) (by omega) (by omega) late_5s (by intro m hm; simp at hm; omega)
/-- what ExpandMany asks of its first rule. -/
theorem many_starts (ev un : Int) (n : Nat) (e1 : 1 ≤ ev) (e2 : ev ≤ 20) (n1 : 39 ≤ n) (n2 : n ≤ 41) (hu : ((n : Int) - 1) * (ev * 1440) + 5 = un) :
    (40 < n → startsE (dayR ev 0 un) 5 [] = ([], 13)) ∧ (n ≤ 40 → startsE (dayR ev 0 un) 5 [] = ((List.range n).map fun (i : Nat) => 5 + ev * i * 1440, 0)) := by
  obtain ⟨hr, ha⟩ := many_all ev un n e1 e2 (by omega) n2 hu
  refine ⟨fun h => startsE_many _ 5 [] hr (by omega) (by omega) (by rw [ha]; simp; exact h), fun h => ?_⟩
  refine startsE_ok _ 5 [] _ _ hr (by omega) (by omega) ha (by simp; exact h) (filter_none _) ?_
  intro hc
  have := congrArg List.length hc
  simp at this
  omega

end Go.Proofs.Ytdmplojfidkipaa.Rul

/- Plain facts of ExpandExcept: some of a daily rule's minutes left out. -/
namespace Go.Proofs.Ytdmplojfidkipaa.Rul
open Go.Proofs.Ytdmplojfidkipaa

/-- those of the first j days' minutes of which p says so. -/
def exL (p : Nat → Bool) (s : Int) (j : Nat) : List Int := ((List.range j).filter p).map fun (i : Nat) => s + (i : Int) * 1440
theorem exL_yes (p : Nat → Bool) (s : Int) (j : Nat) (h : p j = true) : exL p s (j + 1) = exL p s j ++ [s + (j : Int) * 1440] := by
  unfold exL; rw [List.range_succ, List.filter_append, List.filter_cons, h, List.map_append]; rfl
theorem exL_no (p : Nat → Bool) (s : Int) (j : Nat) (h : p j = false) : exL p s (j + 1) = exL p s j := by
  unfold exL; rw [List.range_succ, List.filter_append, List.filter_cons, h]; simp
theorem exL_len (p : Nat → Bool) (s : Int) (j : Nat) : (exL p s j).length ≤ j := by
  unfold exL; rw [List.length_map]
  have := List.length_filter_le p (List.range j)
  rw [List.length_range] at this; exact this
theorem outB_mem (ex : List Int) (m : Int) : outB ex m = true ↔ m ∈ ex := by
  unfold outB; rw [List.any_eq_true]
  exact ⟨fun ⟨x, hx, h⟩ => by rw [beq_iff_eq] at h; exact h ▸ hx, fun h => ⟨m, h, by simp⟩⟩
theorem outB_exL (p : Nat → Bool) (s : Int) (k i : Nat) (h : i < k) : outB (exL p s k) (s + 1 * (i : Int) * 1440) = p i := by
  rw [Bool.eq_iff_iff, outB_mem]
  unfold exL
  rw [List.mem_map]
  refine ⟨fun ⟨j, hj, e⟩ => ?_, fun hp => ⟨i, List.mem_filter.2 ⟨List.mem_range.2 h, hp⟩, by omega⟩⟩
  obtain rfl : j = i := by omega
  exact (List.mem_filter.1 hj).2
theorem exc_left (p : Nat → Bool) (s : Int) (k : Nat) : (((List.range k).map fun (i : Nat) => s + 1 * (i : Int) * 1440).filter fun m => !outB (exL p s k) m) = exL (fun i => !p i) s k := by
  rw [List.filter_map]
  unfold exL
  have : (List.range k).filter ((fun m => !outB (List.map (fun (i : Nat) => s + (i : Int) * 1440) ((List.range k).filter p)) m) ∘ fun (i : Nat) => s + 1 * (i : Int) * 1440) = (List.range k).filter fun i => !p i := by
    refine List.filter_congr fun i hi => ?_
    show (!outB (exL p s k) (s + 1 * (i : Int) * 1440)) = !p i
    rw [outB_exL p s k i (List.mem_range.1 hi)]
  rw [this]
  refine List.map_congr_left fun i _ => ?_
  omega
theorem exc_starts (p : Nat → Bool) (s : Int) (k : Nat) (hk : 0 < k) (hk2 : k ≤ 40) (s0 : 0 ≤ s) (s1 : s < 26298000) :
    (exL (fun i => !p i) s k = [] → startsE (dayR 1 k (-1)) s (exL p s k) = ([], 23)) ∧ (exL (fun i => !p i) s k ≠ [] → startsE (dayR 1 k (-1)) s (exL p s k) = (exL (fun i => !p i) s k, 0)) := by
  have hr := dayR_rec 1 k (-1) (by omega) (by omega) (by omega) (by omega) (by omega) (by omega) (Or.inr rfl)
  have ha := dayR_count 1 s k hr hk s0 (by omega)
  refine ⟨fun h => startsE_empty _ s _ _ hr s0 (by omega) ha (by simp; omega) ((exc_left p s k).trans h), fun h => startsE_ok _ s _ _ _ hr s0 (by omega) ha (by simp; omega) (exc_left p s k) h⟩

end Go.Proofs.Ytdmplojfidkipaa.Rul

/- Plain facts of ExpandCounts: the same rule with another Count, another Until. -/
namespace Go.Proofs.Ytdmplojfidkipaa.Rul
open Go.Proofs.Ytdmplojfidkipaa

theorem rec_with {fr ev ct un : Int} {ds : List Wd} {ms ys : List Int} (ct2 un2 : Int) (h : recB ⟨fr, ev, ct, un, ds, ms, ys⟩ = true) (h1 : 0 ≤ ct2 ∧ ct2 ≤ 40) (h2 : -1 ≤ un2 ∧ un2 ≤ 52595999) (h3 : ct2 = 0 ∨ un2 = -1) : recB ⟨fr, ev, ct2, un2, ds, ms, ys⟩ = true := by
  rw [recB_is, Bool.and_eq_true] at h ⊢
  refine ⟨?_, h.2⟩
  have := h.1
  rw [R.rng_iff] at this ⊢
  omega
theorem daysL_with {fr ev ct un ct2 un2 : Int} {ds : List Wd} {ms ys : List Int} (h : recB ⟨fr, ev, ct, un, ds, ms, ys⟩ = true) (h2 : recB ⟨fr, ev, ct2, un2, ds, ms, ys⟩ = true) (s k : Int) : daysL ⟨fr, ev, ct2, un2, ds, ms, ys⟩ s k = daysL ⟨fr, ev, ct, un, ds, ms, ys⟩ s k := by
  have hK : perK ⟨fr, ev, ct2, un2, ds, ms, ys⟩ s k = perK ⟨fr, ev, ct, un, ds, ms, ys⟩ s k := by unfold perK; rw [h, h2]
  have hf : ∀ d, fitsB ⟨fr, ev, ct2, un2, ds, ms, ys⟩ d = fitsB ⟨fr, ev, ct, un, ds, ms, ys⟩ d := fun d => by unfold fitsB; rw [h, h2]; rfl
  have ho : ofB ⟨fr, ev, ct2, un2, ds, ms, ys⟩ s = ofB ⟨fr, ev, ct, un, ds, ms, ys⟩ s := by funext d; unfold ofB; rw [hf]; rfl
  have hA : perA ⟨fr, ev, ct2, un2, ds, ms, ys⟩ s k = perA ⟨fr, ev, ct, un, ds, ms, ys⟩ s k := by unfold perA; rw [hK]
  have hB : perB ⟨fr, ev, ct2, un2, ds, ms, ys⟩ s k = perB ⟨fr, ev, ct, un, ds, ms, ys⟩ s k := by unfold perB; rw [hK]
  unfold daysL
  rw [hK, hA, hB, ho]
theorem cand_with {fr ev ct un ct2 un2 : Int} {ds : List Wd} {ms ys : List Int} (h : recB ⟨fr, ev, ct, un, ds, ms, ys⟩ = true) (h2 : recB ⟨fr, ev, ct2, un2, ds, ms, ys⟩ = true) (s : Int) : cand ⟨fr, ev, ct2, un2, ds, ms, ys⟩ s = cand ⟨fr, ev, ct, un, ds, ms, ys⟩ s := by
  unfold cand candT
  have : candK ⟨fr, ev, ct2, un2, ds, ms, ys⟩ s = candK ⟨fr, ev, ct, un, ds, ms, ys⟩ s := by
    funext k; unfold candK; rw [daysL_with h h2]
  rw [this]
theorem cand_in (r : T) (s m : Int) (h : m ∈ cand r s) : s ≤ m ∧ m ≤ 52595999 := by
  obtain ⟨i, _, hi⟩ := (candT_mem r s m 36525).1 h
  exact ⟨(candK_mem r s m i hi).2.2.2.2.1, candK_le' r s m i hi⟩
 where
  candK_le' (r : T) (s m : Int) (k : Nat) (h : m ∈ candK r s k) : m ≤ 52595999 := by
    have a := candK_mem r s m k h
    have b := per_bd _ _ _ a.1
    omega
theorem allL_count (r : T) (s : Int) (n : Nat) (hn : 0 < n) (hc : r.ct = n) (hu : r.un = -1) : allL r s = (cand r s).take n := by
  unfold allL
  rw [show (cand r s).filter (keepU r) = cand r s from List.filter_eq_self.2 fun m _ => keepU_lo r m (by omega), capN_ct r (by omega), hc]
  rfl
/-- of rising numbers those up to the n-th are the first n. -/
theorem rise_take (l : List Int) (hp : l.Pairwise (· < ·)) (n : Nat) (u : Int) (i : Nat) (hi : i < l.length) (hin : i + 1 = n ∨ (i + 1 = l.length ∧ l.length ≤ n)) (hu : l[i] = u) : (l.filter fun m => decide (m ≤ u)) = l.take n := by
  have hr := List.pairwise_iff_getElem.1 hp
  conv => lhs; rw [← List.take_append_drop n l]
  rw [List.filter_append]
  have h1 : ((l.take n).filter fun m => decide (m ≤ u)) = l.take n := List.filter_eq_self.2 fun m hm => by
    obtain ⟨j, hj, rfl⟩ := List.mem_iff_getElem.1 hm
    rw [List.getElem_take]
    rw [List.length_take] at hj
    rcases Nat.lt_or_ge j i with g | g
    · have := hr j i (by omega) hi g
      exact decide_eq_true (by omega)
    · obtain rfl : j = i := by omega
      exact decide_eq_true (by omega)
  have h2 : ((l.drop n).filter fun m => decide (m ≤ u)) = [] := List.filter_eq_nil_iff.2 fun m hm => by
    obtain ⟨j, hj, rfl⟩ := List.mem_iff_getElem.1 hm
    rw [List.getElem_drop]
    rw [List.length_drop] at hj
    have := hr i (n + j) hi (by omega) (by omega)
    simp; omega
  rw [h1, h2, List.append_nil]
theorem allL_until (r : T) (s u : Int) (n i : Nat) (hi : i < (cand r s).length) (hin : i + 1 = n ∨ (i + 1 = (cand r s).length ∧ (cand r s).length ≤ n)) (hn : n ≤ 41) (hu : (cand r s)[i] = u) (hc : r.ct = 0) (h0 : 0 ≤ u) (hun : r.un = u) : allL r s = (cand r s).take n := by
  unfold allL
  have : (cand r s).filter (keepU r) = (cand r s).take n := by
    rw [← rise_take (cand r s) (candT_up r s 36525) n u i hi hin hu]
    refine List.filter_congr fun m _ => ?_
    unfold keepU; rw [hun, decide_eq_false (by omega), Bool.false_or]
  rw [this, capN_0 r (by omega)]
  exact List.take_of_length_le (Nat.le_trans (List.length_take_le _ _) hn)
/-- what Starts says with nothing left out. -/
theorem starts_none (r : T) (s : Int) (l : List Int) (h : recB r = true) (h1 : 0 ≤ s) (h2 : s < 52596000) (hl : allL r s = l) (hn : l.length ≤ 40) : startsE r s [] = if l.length = 0 then ([], 23) else (l, 0) := by
  by_cases he : l.length = 0
  · rw [if_pos he]; exact startsE_empty r s [] l h h1 h2 hl hn ((filter_none l).trans (List.eq_nil_of_length_eq_zero he))
  · rw [if_neg he]; exact startsE_ok r s [] l l h h1 h2 hl hn (filter_none l) fun h0 => he (by rw [h0]; rfl)
/-- all that ExpandCounts compares. -/
theorem counts_law {fr ev ct un : Int} {ds : List Wd} {ms ys : List Int} (h : recB ⟨fr, ev, ct, un, ds, ms, ys⟩ = true) (s : Int) (c : Nat) (hc : 2 ≤ c) (hc2 : c ≤ 21) (s0 : 0 ≤ s) (s1 : s < 52596000) :
    ∃ l : List Int, l.length ≤ c ∧ (startsE ⟨fr, ev, c, -1, ds, ms, ys⟩ s [] = if l.length = 0 then ([], 23) else (l, 0)) ∧
      (startsE ⟨fr, ev, (c : Int) - 1, -1, ds, ms, ys⟩ s [] = if l.length = 0 then ([], 23) else (l.take (c - 1), 0)) ∧
      ∀ i (hi : i < l.length), i + 1 = l.length → startsE ⟨fr, ev, 0, l[i], ds, ms, ys⟩ s [] = (l, 0) ∧ 0 ≤ l[i] ∧ l[i] ≤ 52595999 := by
  have ha := rec_with (c : Int) (-1) h (by omega) (by omega) (Or.inr rfl)
  have hb := rec_with ((c : Int) - 1) (-1) h (by omega) (by omega) (Or.inr rfl)
  have ca := allL_count ⟨fr, ev, c, -1, ds, ms, ys⟩ s c (by omega) rfl rfl
  have cb := allL_count ⟨fr, ev, (c : Int) - 1, -1, ds, ms, ys⟩ s (c - 1) (by omega) (by show (c : Int) - 1 = _; omega) rfl
  rw [cand_with h ha s] at ca
  rw [cand_with h hb s] at cb
  have hin := cand_in ⟨fr, ev, ct, un, ds, ms, ys⟩ s
  have hcw := fun (u : Int) (hu : -1 ≤ u ∧ u ≤ 52595999) => cand_with h (rec_with 0 u h (by omega) hu (Or.inl rfl)) s
  obtain ⟨C, hC⟩ : ∃ C, cand ⟨fr, ev, ct, un, ds, ms, ys⟩ s = C := ⟨_, rfl⟩
  rw [hC] at ca cb hin
  have hlt : (C.take c).length = min c C.length := List.length_take
  refine ⟨C.take c, List.length_take_le _ _, starts_none _ s _ ha s0 s1 ca (by omega), ?_, ?_⟩
  · rw [starts_none _ s _ hb s0 s1 cb (by rw [List.length_take]; omega), List.take_take, show min (c - 1) c = c - 1 by omega]
    by_cases h0 : C.length = 0
    · rw [if_pos (by rw [List.length_take]; omega), if_pos (by omega)]
    · rw [if_neg (by rw [List.length_take]; omega), if_neg (by omega)]
  · intro i hi hl
    have hi2 : i < C.length := by omega
    have e : (C.take c)[i] = C[i] := List.getElem_take
    have hr := hin C[i] (List.getElem_mem _)
    rw [e]
    refine ⟨?_, by omega, by omega⟩
    have hcC := (hcw C[i] (by omega)).trans hC
    have hau := allL_until ⟨fr, ev, 0, C[i], ds, ms, ys⟩ s C[i] c i (by rw [hcC]; exact hi2) (by rw [hcC]; omega) (by omega) (List.getElem_of_eq hcC _) rfl (by omega) rfl
    rw [hcC] at hau
    rw [starts_none _ s _ (rec_with 0 C[i] h (by omega) (by omega) (Or.inl rfl)) s0 s1 hau (by omega), if_neg (by omega)]

end Go.Proofs.Ytdmplojfidkipaa.Rul

/- Plain facts of ExpandMonthEnds: a monthly rule without lists, from a January on. -/
namespace Go.Proofs.Ytdmplojfidkipaa.Rul
open Go.Proofs.Ytdmplojfidkipaa

/-- the days of a row of days that are the v-th. -/
theorem upto_pick (a b v : Int) (h1 : a ≤ v) (h2 : v < b) (p : Int → Bool) (hp : ∀ x, a ≤ x → x < b → (p x = true ↔ x = v)) : (upto a b).filter p = [v] := by
  rw [upto_split a v b h1 (by omega), upto_split v (v + 1) b (by omega) (by omega), upto_succ v v (Int.le_refl _), upto_nil, List.filter_append, List.filter_append]
  have e1 : (upto a v).filter p = [] := List.filter_eq_nil_iff.2 fun x hx hc => by
    rw [upto_mem] at hx; have := (hp x hx.1 (by omega)).1 hc; omega
  have e2 : (upto (v + 1) b).filter p = [] := List.filter_eq_nil_iff.2 fun x hx hc => by
    rw [upto_mem] at hx; have := (hp x (by omega) hx.2).1 hc; omega
  have e3 : p v = true := (hp v h1 h2).2 rfl
  rw [e1, e2]
  simp [e3]
theorem upto_none (a b : Int) (p : Int → Bool) (hp : ∀ x, a ≤ x → x < b → p x = false) : (upto a b).filter p = [] :=
  List.filter_eq_nil_iff.2 fun x hx => by rw [upto_mem] at hx; rw [hp x hx.1 hx.2]; simp
/-- has the k-th month behind that of q a D-th day? -/
def monB (q D : Int) (k : Nat) : Bool := decide (D ≤ Cal.dim (2000 + (q + k) / 12) ((q + k) % 12 + 1))
def monM (q D : Int) (k : Nat) : Int := (fst (q + k) + D - 1) * 1440 + 540
def monL (q D : Int) (k : Nat) : List Int := ((List.range k).filter (monB q D)).map (monM q D)
abbrev monR (c : Int) : T := ⟨3, 1, c, -1, [], [], []⟩
theorem mon_day (q D : Int) (q0 : 0 ≤ q) (q1 : q ≤ 468) (hq : q % 12 = 0) (D0 : 1 ≤ D) (D1 : D ≤ 31) : 0 ≤ fst q + D - 1 ∧ fst q + D - 1 < 36525 ∧ Cal.yOf (fst q + D - 1) = 2000 + q / 12 ∧ Cal.mOf (fst q + D - 1) = 1 ∧ Cal.dOf (fst q + D - 1) = D := by
  have b := fst_lt q q0 (by omega)
  have n := fst_next q q0 (by omega)
  have b2 := fst_bd (q + 1) (by omega)
  rw [hq] at n
  have hd : Cal.dim (2000 + q / 12) (0 + 1) = 31 := rfl
  rw [hd] at n
  have m := in_month q (fst q + D - 1) q0 (by omega) (by omega) (by omega)
  refine ⟨by omega, by omega, m.1, ?_, ?_⟩
  · rw [m.2.1, hq]; rfl
  · rw [m.2.2]; omega
theorem monR_rec (c : Int) (c0 : 0 ≤ c) (c1 : c ≤ 40) : recB (monR c) = true :=
  rec_with c (-1) (rec_plain 3 1 (by omega) (by omega) (by omega) (by omega)) ⟨c0, c1⟩ (by omega) (Or.inr rfl)
theorem mon_days (q D c : Int) (k : Nat) (q0 : 0 ≤ q) (q1 : q ≤ 468) (hq : q % 12 = 0) (D0 : 1 ≤ D) (D1 : D ≤ 31) (c0 : 0 ≤ c) (c1 : c ≤ 40) (hk : k ≤ 100) :
    daysL (monR c) (fst q + D - 1) k = if monB q D k then [fst (q + k) + D - 1] else [] := by
  obtain ⟨s0, s1, hy, hm, hd⟩ := mon_day q D q0 q1 hq D0 D1
  have hp := rec_plain 3 1 (by omega) (by omega) (by omega) (by omega)
  rw [daysL_with hp (monR_rec c c0 c1)]
  have b := fst_lt (q + k) (by omega) (by omega)
  have b2 := fst_bd (q + k + 1) (by omega)
  have hA : pA 3 (fst q + D - 1) (1 * k) = fst (q + k) := by rw [pA_3, hy, hm]; congr 1; omega
  have hB : pB 3 (fst q + D - 1) (1 * k) = fst (q + k + 1) := by rw [pB_3, hy, hm]; congr 1; omega
  have hK := plain_K 3 1 (fst q + D - 1) k (by omega) (by omega) (by omega) (by omega) s0 s1 (by omega) (by omega) (by rw [hA]; exact b.2)
  obtain ⟨ea, eb, _⟩ := per_at ⟨3, 1, 0, -1, [], [], []⟩ _ k _ _ hK hA hB b.1 b2.2
  rw [daysL_plain 3 1 _ k (by omega) (by omega) (by omega) (by omega) hK, ea, eb]
  have n := fst_next (q + k) (by omega) (by omega)
  have hin := fun x h1 h2 => in_month (q + k) x (by omega) (by omega) h1 h2
  have hs : ∀ x, samB 3 (fst q + D - 1) x = (Cal.dOf x == D) := fun x => by unfold samB; rw [hd]; rfl
  unfold monB
  by_cases hD : D ≤ Cal.dim (2000 + (q + k) / 12) ((q + k) % 12 + 1)
  · rw [decide_eq_true hD, if_pos rfl]
    refine upto_pick _ _ _ (by omega) (by omega) _ fun x h1 h2 => ?_
    rw [hs, beq_iff_eq, (hin x h1 h2).2.2]; omega
  · rw [decide_eq_false hD, if_neg (by simp)]
    refine upto_none _ _ _ fun x h1 h2 => ?_
    rw [hs, beq_eq_false_iff_ne, (hin x h1 h2).2.2]; omega
theorem monL_yes (q D : Int) (k : Nat) (h : monB q D k = true) : monL q D (k + 1) = monL q D k ++ [monM q D k] := by
  unfold monL; rw [List.range_succ, List.filter_append, List.filter_cons, h, List.map_append]; rfl
theorem monL_no (q D : Int) (k : Nat) (h : monB q D k = false) : monL q D (k + 1) = monL q D k := by
  unfold monL; rw [List.range_succ, List.filter_append, List.filter_cons, h]; simp
theorem mon_candT (q D c : Int) (n : Nat) (q0 : 0 ≤ q) (q1 : q ≤ 468) (hq : q % 12 = 0) (D0 : 1 ≤ D) (D1 : D ≤ 31) (c0 : 0 ≤ c) (c1 : c ≤ 40) (hn : n ≤ 100) : candT (monR c) ((fst q + D - 1) * 1440 + 540) n = monL q D n := by
  have e1 : ((fst q + D - 1) * 1440 + 540) / 1440 = fst q + D - 1 := by omega
  have e2 : ((fst q + D - 1) * 1440 + 540) % 1440 = 540 := by omega
  induction n with
  | zero => rfl
  | succ n ih =>
    have mo := fst_mono q (q + n) q0 (by omega)
    rw [candT_succ, ih (by omega)]
    unfold candK
    rw [e1, e2, mon_days q D c n q0 q1 hq D0 D1 c0 c1 (by omega)]
    cases h : monB q D n
    · rw [monL_no q D n h]; simp
    · rw [monL_yes q D n h]
      have hle : (fst q + D - 1) * 1440 + 540 ≤ (fst (q + n) + D - 1) * 1440 + 540 := by omega
      simp [monM, hle]
theorem monL_100 (q D : Int) (_q0 : 0 ≤ q) (hq : q % 12 = 0) (D1 : D ≤ 31) : 30 ≤ (monL q D 100).length := by
  unfold monL
  rw [List.length_map, ← List.countP_eq_length_filter]
  refine Nat.le_trans (show 30 ≤ (List.range 100).countP (fun i => decide (i % 12 = 0) || decide (i % 12 = 2) || decide (i % 12 = 4) || decide (i % 12 = 6) || decide (i % 12 = 7)) by decide +kernel) ?_
  refine List.countP_mono_left fun i _ h => ?_
  have hm : (q + (i : Int)) % 12 = (i % 12 : Nat) := by omega
  unfold monB
  rw [hm]
  simp only [Bool.or_eq_true, decide_eq_true_eq] at h
  refine decide_eq_true ?_
  rcases h with (((h | h) | h) | h) | h <;> rw [h] <;> exact D1
theorem mon_all (q D : Int) (c : Nat) (q0 : 0 ≤ q) (q1 : q ≤ 468) (hq : q % 12 = 0) (D0 : 1 ≤ D) (D1 : D ≤ 31) (c0 : 0 < c) (c1 : c ≤ 30) : allL (monR c) ((fst q + D - 1) * 1440 + 540) = (monL q D 100).take c := by
  have hl := monL_100 q D q0 hq D1
  rw [allL_count _ _ c c0 rfl rfl]
  obtain ⟨t, e, _⟩ := cand_split (monR c) ((fst q + D - 1) * 1440 + 540) 100 (by omega)
  rw [e, mon_candT q D c 100 q0 q1 hq D0 D1 (by omega) (by omega) (Nat.le_refl _)]
  exact List.take_append_of_le_length (by omega)
theorem mon_starts (q D : Int) (c : Nat) (q0 : 0 ≤ q) (q1 : q ≤ 468) (hq : q % 12 = 0) (D0 : 1 ≤ D) (D1 : D ≤ 31) (c0 : 0 < c) (c1 : c ≤ 30) : startsE (monR c) ((fst q + D - 1) * 1440 + 540) [] = ((monL q D 100).take c, 0) ∧ ((monL q D 100).take c).length = c := by
  have hl := monL_100 q D q0 hq D1
  have d := mon_day q D q0 q1 hq D0 D1
  have hlen : ((monL q D 100).take c).length = c := by rw [List.length_take]; omega
  refine ⟨?_, hlen⟩
  rw [starts_none _ _ _ (monR_rec c (by omega) (by omega)) (by omega) (by omega) (mon_all q D c q0 q1 hq D0 D1 c0 c1) (by omega), if_neg (by omega)]
/-- the n-th of them is there where it is. -/
theorem mon_at (q D : Int) (c m : Nat) (hm : m < 100) (h : monB q D m = true) (hlt : (monL q D m).length < ((monL q D 100).take c).length) : ((monL q D 100).take c)[(monL q D m).length] = monM q D m := by
  have key : ∀ j, ∃ t, monL q D (m + 1 + j) = monL q D (m + 1) ++ t := by
    intro j
    induction j with
    | zero => exact ⟨[], by simp⟩
    | succ j ih =>
      obtain ⟨t, e⟩ := ih
      cases hb : monB q D (m + 1 + j)
      · exact ⟨t, by rw [show m + 1 + (j + 1) = m + 1 + j + 1 by omega, monL_no _ _ _ hb, e]⟩
      · exact ⟨t ++ [monM q D (m + 1 + j)], by rw [show m + 1 + (j + 1) = m + 1 + j + 1 by omega, monL_yes _ _ _ hb, e, List.append_assoc]⟩
  obtain ⟨t, e⟩ := key (99 - m)
  rw [show m + 1 + (99 - m) = 100 by omega, monL_yes q D m h] at e
  rw [List.getElem_take]
  have : (monL q D 100)[(monL q D m).length]? = some (monM q D m) := by rw [e]; simp
  exact (List.getElem?_eq_some_iff.1 this).2
/-- what Minute answers of the date. -/
theorem mon_min (q D : Int) (k : Nat) (q0 : 0 ≤ q) (q1 : q ≤ 468) (D0 : 1 ≤ D) (hk : k < 100) : (monB q D k = true → minE (2000 + (q + k) / 12) ((q + k) % 12 + 1) D 9 0 = (monM q D k, 0)) ∧ (monB q D k = false → (minE (2000 + (q + k) / 12) ((q + k) % 12 + 1) D 9 0).2 = 11) := by
  have ht : timeB 9 0 = true := rfl
  have e : fst (q + k) = Cal.num (2000 + (q + k) / 12) ((q + k) % 12 + 1) 1 := fE_in _ _ (by omega)
  unfold monB
  refine ⟨fun h => ?_, fun h => ?_⟩
  · have h := of_decide_eq_true h
    unfold minE monM
    rw [numE_0 _ _ _ ((Cal.isB_iff _ _ _).2 ⟨D0, h⟩) (by omega) (by omega), if_pos rfl, if_pos ht, e]
    unfold Cal.num
    simp only
    congr 1
    omega
  · have h := of_decide_eq_false h
    have hb : Cal.isB (2000 + (q + k) / 12) ((q + k) % 12 + 1) D = false := by rw [Bool.eq_false_iff]; intro hc; exact h ((Cal.isB_iff _ _ _).1 hc).2
    unfold minE
    rw [numE_11 _ _ _ hb]
    rfl

end Go.Proofs.Ytdmplojfidkipaa.Rul

/- Plain facts of ExpandWeekdays: a weekly rule with some weekdays, or none. -/
namespace Go.Proofs.Ytdmplojfidkipaa.Rul
open Go.Proofs.Ytdmplojfidkipaa

/-- those of the first j weekdays of which p says so. -/
def wdL (p : Nat → Bool) (j : Nat) : List Wd := ((List.range j).filter p).map fun (i : Nat) => ((0 : Int), (i : Int))
theorem wdL_yes (p : Nat → Bool) (j : Nat) (h : p j = true) : wdL p (j + 1) = wdL p j ++ [((0 : Int), (j : Int))] := by
  unfold wdL; rw [List.range_succ, List.filter_append, List.filter_cons, h, List.map_append]; rfl
theorem wdL_no (p : Nat → Bool) (j : Nat) (h : p j = false) : wdL p (j + 1) = wdL p j := by
  unfold wdL; rw [List.range_succ, List.filter_append, List.filter_cons, h]; simp
theorem wdL_len (p : Nat → Bool) (j : Nat) : (wdL p j).length ≤ j := by
  unfold wdL; rw [List.length_map]
  have := List.length_filter_le p (List.range j)
  rw [List.length_range] at this; exact this
abbrev wdR (p : Nat → Bool) (c : Int) : T := ⟨2, 1, c, -1, wdL p 7, [], []⟩
/-- a day that the rule comes on, from a day s on. -/
def wdW (p : Nat → Bool) (s d : Int) : Bool := p (Cal.wday d).toNat || (decide (wdL p 7 = []) && (Cal.wday d == Cal.wday s))
theorem wd_any (p : Nat → Bool) (d : Int) : (wdL p 7).any (wdFit (placeOf d)) = p (Cal.wday d).toNat := by
  have hb := Cal.wday_bd d
  rw [Bool.eq_iff_iff, List.any_eq_true]
  have hw : (placeOf d).wd = Cal.wday d := rfl
  refine ⟨fun ⟨x, hx, h⟩ => ?_, fun h => ⟨(0, Cal.wday d), ?_, ?_⟩⟩
  · unfold wdL at hx
    obtain ⟨i, hi, rfl⟩ := List.mem_map.1 hx
    unfold wdFit at h
    rw [Bool.and_eq_true, decide_eq_true_eq, hw] at h
    have e : (Cal.wday d).toNat = i := by have := h.1; simp only at this; omega
    rw [e]; exact (List.mem_filter.1 hi).2
  · unfold wdL
    refine List.mem_map.2 ⟨(Cal.wday d).toNat, List.mem_filter.2 ⟨List.mem_range.2 (by omega), h⟩, ?_⟩
    rw [Int.toNat_of_nonneg hb.1]
  · unfold wdFit; rw [hw]; simp
theorem wd_of (p : Nat → Bool) (c s d : Int) (hr : recB (wdR p c) = true) (d0 : 0 ≤ d) (d1 : d < 36525) : ofB (wdR p c) s d = wdW p s d := by
  have hf : fitsB (wdR p c) d = emptyOr (wdFit (placeOf d)) (wdL p 7) := by
    unfold fitsB dayB; rw [hr, decide_eq_true (show 0 ≤ d ∧ d < 36525 from ⟨d0, d1⟩)]
    show (true && (true && (emptyOr _ [] && (emptyOr _ [] && _)))) = _
    rw [emptyOr_nil, emptyOr_nil]; simp
  unfold ofB wdW
  rw [hf]
  by_cases h : wdL p 7 = []
  · have ha : p (Cal.wday d).toNat = false := by rw [← wd_any p d, h]; rfl
    have ew : wkA (wdR p c) s = Cal.wday s := by unfold wkA; rw [if_neg (by show ¬ 0 < (wdL p 7).length; rw [h]; simp), if_pos rfl]
    have ed : dyA (wdR p c) s = -1 := by
      unfold dyA; rw [if_neg (by show ¬ 0 < (wdL p 7).length; rw [h]; simp), if_neg (by simp), if_neg (by simp)]
    have em : moA (wdR p c) s = -1 := by
      unfold moA; rw [if_neg (by show ¬ 0 < (wdL p 7).length; rw [h]; simp), if_neg (by simp), if_neg (by simp)]
    rw [ew, ed, em, ha, h, emptyOr_nil]
    have hs := Cal.wday_bd s
    unfold hasB
    rw [beq_eq_false_iff_ne.2 (show Cal.wday s ≠ -1 by omega)]
    by_cases e : Cal.wday d = Cal.wday s
    · rw [e]; simp
    · rw [beq_eq_false_iff_ne.2 e, beq_eq_false_iff_ne.2 (show Cal.wday s ≠ Cal.wday d from fun g => e g.symm)]; simp
  · have hl : 0 < (wdL p 7).length := by
      cases hh : wdL p 7
      · exact absurd hh h
      · simp
    have ew : wkA (wdR p c) s = -1 := by unfold wkA; rw [if_pos hl]
    have ed : dyA (wdR p c) s = -1 := by unfold dyA; rw [if_pos hl]
    have em : moA (wdR p c) s = -1 := by unfold moA; rw [if_pos hl]
    rw [ew, ed, em, emptyOr_any _ _ h, wd_any, decide_eq_false h]
    simp [hasB]
/-- the days from s on, up to b, that the rule comes on: as minutes. -/
def wdM (p : Nat → Bool) (s b : Int) : List Int := ((upto s b).filter (wdW p s)).map fun d => d * 1440 + 600
theorem wdM_yes (p : Nat → Bool) (s b : Int) (h : s ≤ b) (hp : wdW p s b = true) : wdM p s (b + 1) = wdM p s b ++ [b * 1440 + 600] := by
  unfold wdM; rw [filter_upto _ _ _ h, if_pos hp, List.map_append]; rfl
theorem wdM_no (p : Nat → Bool) (s b : Int) (h : s ≤ b) (hp : wdW p s b = false) : wdM p s (b + 1) = wdM p s b := by
  unfold wdM; rw [filter_upto _ _ _ h, if_neg (by rw [hp]; simp), List.append_nil]
theorem wdM_split (p : Nat → Bool) (s m b : Int) (h1 : s ≤ m) (h2 : m ≤ b) : ∃ t, wdM p s b = wdM p s m ++ t := by
  refine ⟨((upto m b).filter (wdW p s)).map fun d => d * 1440 + 600, ?_⟩
  unfold wdM; rw [upto_split s m b h1 h2, List.filter_append, List.map_append]
theorem wd_candK (p : Nat → Bool) (c s : Int) (k : Nat) (hr : recB (wdR p c) = true) (s0 : 0 ≤ s) (s1 : s < 36125) (hk : k ≤ 56) (a b : Int) (ha : a = max (s - Cal.wday s + 7 * k) s) (hb : b = s - Cal.wday s + 7 * k + 7) : candK (wdR p c) (s * 1440 + 600) k = ((upto a b).filter (wdW p s)).map fun d => d * 1440 + 600 := by
  have hw := Cal.wday_bd s
  have e1 : (s * 1440 + 600) / 1440 = s := by omega
  have e2 : (s * 1440 + 600) % 1440 = 600 := by omega
  have hA : pA 2 s (1 * k) = s - Cal.wday s + 7 * k := by rw [pA_2]; omega
  have hB : pB 2 s (1 * k) = s - Cal.wday s + 7 * k + 7 := by rw [pB_2]; omega
  have hK : perK (wdR p c) s k = true := (perK_iff _ _ _).2 ⟨⟨s0, by omega⟩, hr, ⟨by omega, by omega⟩, by show pA 2 s (1 * k) < 36525; rw [hA]; omega⟩
  have ea : perA (wdR p c) s k = max (s - Cal.wday s + 7 * k) 0 := by unfold perA; rw [if_pos hK]; show max (pA 2 s (1 * k)) 0 = _; rw [hA]
  have eb : perB (wdR p c) s k = b := by unfold perB; rw [if_pos hK]; show min (pB 2 s (1 * k)) 36525 = _; rw [hB]; omega
  unfold candK
  rw [e1, e2, daysL_yes _ _ _ hK, ea, eb, List.filter_map]
  have hf : (upto (max (s - Cal.wday s + 7 * k) 0) b).filter (ofB (wdR p c) s) = (upto (max (s - Cal.wday s + 7 * k) 0) b).filter (wdW p s) := List.filter_congr fun d hd => by
    rw [upto_mem] at hd; exact wd_of p c s d hr (by omega) (by omega)
  rw [hf, upto_split (max (s - Cal.wday s + 7 * k) 0) a b (by omega) (by omega), List.filter_append, List.filter_append]
  have h1 : ((upto (max (s - Cal.wday s + 7 * k) 0) a).filter (wdW p s)).filter ((fun m => decide (s * 1440 + 600 ≤ m)) ∘ fun d => d * 1440 + 600) = [] := List.filter_eq_nil_iff.2 fun d hd => by
    have h := (List.mem_filter.1 hd).1
    rw [upto_mem] at h
    simp; omega
  have h2 : ((upto a b).filter (wdW p s)).filter ((fun m => decide (s * 1440 + 600 ≤ m)) ∘ fun d => d * 1440 + 600) = (upto a b).filter (wdW p s) := List.filter_eq_self.2 fun d hd => by
    have h := (List.mem_filter.1 hd).1
    rw [upto_mem] at h
    simp; omega
  rw [h1, h2]; rfl
theorem wd_candT (p : Nat → Bool) (c s : Int) (n : Nat) (hr : recB (wdR p c) = true) (s0 : 0 ≤ s) (s1 : s < 36125) (hn : n ≤ 56) : candT (wdR p c) (s * 1440 + 600) (n + 1) = wdM p s (s - Cal.wday s + 7 * (n + 1 : Nat)) := by
  have hw := Cal.wday_bd s
  induction n with
  | zero =>
    rw [candT_succ, candT_0, wd_candK p c s 0 hr s0 s1 (by omega) s (s - Cal.wday s + 7 * (0 + 1 : Nat)) (by omega) (by omega)]
    rfl
  | succ n ih =>
    rw [candT_succ, ih (by omega), wd_candK p c s (n + 1) hr s0 s1 (by omega) (s - Cal.wday s + 7 * (n + 1 : Nat)) (s - Cal.wday s + 7 * (n + 1 + 1 : Nat)) (by omega) (by omega)]
    unfold wdM
    rw [upto_split s (s - Cal.wday s + 7 * (n + 1 : Nat)) (s - Cal.wday s + 7 * (n + 1 + 1 : Nat)) (by omega) (by omega), List.filter_append, List.map_append]
theorem wday_add (a : Int) (v : Int) (v0 : 0 ≤ v) (v1 : v ≤ 6) : ∃ d, a ≤ d ∧ d < a + 7 ∧ Cal.wday d = v := by
  refine ⟨a + (v - Cal.wday a) % 7, by omega, by omega, ?_⟩
  unfold Cal.wday; omega
/-- a week has such a day. -/
theorem wd_week (p : Nat → Bool) (s a : Int) : ∃ d, a ≤ d ∧ d < a + 7 ∧ wdW p s d = true := by
  by_cases h : wdL p 7 = []
  · have hs := Cal.wday_bd s
    obtain ⟨d, h1, h2, h3⟩ := wday_add a (Cal.wday s) hs.1 hs.2
    exact ⟨d, h1, h2, by unfold wdW; rw [decide_eq_true h, h3]; simp⟩
  · obtain ⟨x, hx⟩ := List.exists_mem_of_ne_nil _ h
    unfold wdL at hx
    obtain ⟨i, hi, rfl⟩ := List.mem_map.1 hx
    have h6 := List.mem_range.1 (List.mem_filter.1 hi).1
    obtain ⟨d, h1, h2, h3⟩ := wday_add a i (by omega) (by omega)
    refine ⟨d, h1, h2, ?_⟩
    unfold wdW
    rw [h3, show ((i : Int)).toNat = i by omega, (List.mem_filter.1 hi).2, Bool.true_or]
theorem wd_count (p : Nat → Bool) (s : Int) (n : Nat) : n ≤ (wdM p s (s + 7 * n)).length := by
  induction n with
  | zero => omega
  | succ n ih =>
    obtain ⟨d, h1, h2, h3⟩ := wd_week p s (s + 7 * n)
    obtain ⟨t, e⟩ := wdM_split p s (d + 1) (s + 7 * (n + 1 : Nat)) (by omega) (by omega)
    obtain ⟨t2, e2⟩ := wdM_split p s (s + 7 * n) d (by omega) h1
    rw [e, wdM_yes p s d (by omega) h3, e2]
    simp only [List.length_append, List.length_cons, List.length_nil]
    omega
theorem wd_all (p : Nat → Bool) (c : Nat) (s : Int) (hr : recB (wdR p c) = true) (s0 : 0 ≤ s) (s1 : s < 36125) (c0 : 0 < c) (c1 : c ≤ 30) : allL (wdR p c) (s * 1440 + 600) = (wdM p s (s + 210)).take c := by
  have hw := Cal.wday_bd s
  rw [allL_count _ _ c c0 rfl rfl]
  obtain ⟨t, e, _⟩ := cand_split (wdR p c) (s * 1440 + 600) (56 + 1) (by omega)
  rw [e, wd_candT p c s 56 hr s0 s1 (Nat.le_refl _)]
  obtain ⟨t2, e2⟩ := wdM_split p s (s + 210) (s - Cal.wday s + 7 * (56 + 1 : Nat)) (by omega) (by omega)
  have hc := wd_count p s 30
  rw [show s + 7 * ((30 : Nat) : Int) = s + 210 by omega] at hc
  rw [e2, List.append_assoc]
  exact List.take_append_of_le_length (by omega)
theorem wd_starts (p : Nat → Bool) (c : Nat) (s : Int) (hr : recB (wdR p c) = true) (s0 : 0 ≤ s) (s1 : s < 36125) (c0 : 0 < c) (c1 : c ≤ 30) : startsE (wdR p c) (s * 1440 + 600) [] = ((wdM p s (s + 210)).take c, 0) ∧ ((wdM p s (s + 210)).take c).length = c := by
  have hc := wd_count p s 30
  rw [show s + 7 * ((30 : Nat) : Int) = s + 210 by omega] at hc
  have hlen : ((wdM p s (s + 210)).take c).length = c := by rw [List.length_take]; omega
  refine ⟨?_, hlen⟩
  rw [starts_none _ _ _ hr (by omega) (by omega) (wd_all p c s hr s0 s1 c0 c1) (by omega), if_neg (by omega)]
/-- the n-th of them is there where it is. -/
theorem wd_at (p : Nat → Bool) (c : Nat) (s d : Int) (h1 : s ≤ d) (h2 : d < s + 210) (h : wdW p s d = true) (hlt : (wdM p s d).length < ((wdM p s (s + 210)).take c).length) : ((wdM p s (s + 210)).take c)[(wdM p s d).length] = d * 1440 + 600 := by
  obtain ⟨t, e⟩ := wdM_split p s (d + 1) (s + 210) (by omega) (by omega)
  rw [wdM_yes p s d h1 h] at e
  rw [List.getElem_take]
  have : (wdM p s (s + 210))[(wdM p s d).length]? = some (d * 1440 + 600) := by rw [e]; simp
  exact (List.getElem?_eq_some_iff.1 this).2
theorem wd_full (p : Nat → Bool) (s d : Int) (h : s + 210 ≤ d) : 30 ≤ (wdM p s d).length := by
  obtain ⟨t, e⟩ := wdM_split p s (s + 210) d (by omega) h
  have hc := wd_count p s 30
  rw [show s + 7 * ((30 : Nat) : Int) = s + 210 by omega] at hc
  rw [e, List.length_append]; omega
theorem wdR_rec (p : Nat → Bool) (c : Int) (c0 : 0 ≤ c) (c1 : c ≤ 40) (h : recB (wdR p 0) = true) : recB (wdR p c) = true := rec_with c (-1) h ⟨c0, c1⟩ (by omega) (Or.inr rfl)

end Go.Proofs.Ytdmplojfidkipaa.Rul

/- Plain facts of ExpandFits: what holds of each start. -/
namespace Go.Proofs.Ytdmplojfidkipaa.Rul
open Go.Proofs.Ytdmplojfidkipaa

theorem fits_err (r : T) (s : Int) (ex l : List Int) (e : Int) (h : startsE r s ex = (l, e)) (he : e ≠ 0) : l = [] := by
  unfold startsE at h
  by_cases a1 : isB r = false
  · rw [if_pos a1] at h; injection h with h1 h2; exact h1.symm
  rw [if_neg a1] at h
  by_cases a2 : s < 0 ∨ 52596000 ≤ s
  · rw [if_pos a2] at h; injection h with h1 h2; exact h1.symm
  rw [if_neg a2] at h
  by_cases a3 : 40 < (if r.fr = 0 then [s] else allL r s).length
  · rw [if_pos a3] at h; injection h with h1 h2; exact h1.symm
  rw [if_neg a3] at h
  by_cases a4 : ((if r.fr = 0 then [s] else allL r s).filter fun m => !outB ex m) = []
  · rw [if_pos a4] at h; injection h with h1 h2; exact h1.symm
  rw [if_neg a4] at h
  injection h with h1 h2; exact absurd h2.symm he
/-- what holds of a start. -/
structure FitL (r : T) (s : Int) (m : Int) : Prop where
  lo : s ≤ m
  hi : m ≤ 52595999
  at0 : m % 1440 = s % 1440
  fit : r.fr ≠ 0 → fitsB r (m / 1440) = true
  un : 0 ≤ r.un → m ≤ r.un
theorem fits_all (r : T) (s : Int) (s0 : 0 ≤ s) (s1 : s < 52596000) (hi : isB r = true) : (∀ m ∈ (if r.fr = 0 then [s] else allL r s), FitL r s m) ∧ (if r.fr = 0 then [s] else allL r s).Pairwise (· < ·) ∧ (r.ct = 0 ∨ ((if r.fr = 0 then [s] else allL r s).length : Int) ≤ r.ct) := by
  by_cases h0 : r.fr = 0
  · simp only [if_pos h0]
    have hs : sameB r once = true := by have := R.rec_0 r h0; unfold isB at hi; rw [this, Bool.or_false] at hi; exact hi
    rw [sameB_iff] at hs
    refine ⟨fun m hm => ?_, by simp, Or.inl (by rw [hs]; rfl)⟩
    rw [List.mem_singleton] at hm
    subst hm
    exact ⟨Int.le_refl _, by omega, rfl, fun h => absurd h0 h, fun h => by rw [hs] at h; exact absurd h (by decide)⟩
  · simp only [if_neg h0]
    have hr := R.isB_rec _ hi h0
    have hct : 0 ≤ r.ct := by
      have hrng : rngB r.fr r.ev r.ct r.un = true := by unfold recB at hr; rw [Bool.and_eq_true] at hr; exact hr.1
      rw [R.rng_iff] at hrng; omega
    refine ⟨fun m hm => ?_, allL_up r s, ?_⟩
    · obtain ⟨hc, hk⟩ := allL_sub r s m hm
      obtain ⟨i, _, hi⟩ := (candT_mem r s m 36525).1 hc
      have a := candK_mem r s m i hi
      have b := cand_in r s m hc
      refine ⟨b.1, b.2, a.2.2.2.1, fun _ => ?_, fun hu => ?_⟩
      · have := a.2.2.2.2.2
        unfold ofB at this
        rw [Bool.and_eq_true] at this
        exact this.2
      · unfold keepU at hk
        rw [decide_eq_false (by omega), Bool.false_or] at hk
        exact of_decide_eq_true hk
    · have hl := allL_len r s
      by_cases h : 0 < r.ct
      · rw [capN_ct r h] at hl; right; omega
      · left; omega
theorem fits_law (r : T) (s : Int) (ex l : List Int) (s0 : 0 ≤ s) (s1 : s < 52596000) (h : startsE r s ex = (l, 0)) :
    isB r = true ∧ 0 < l.length ∧ l.length ≤ 40 ∧ (∀ i (hi : i < l.length), outB ex l[i] = false ∧ FitL r s l[i]) ∧ (∀ i (hi : i + 1 < l.length), l[i] < l[i + 1]) ∧ (r.ct = 0 ∨ (l.length : Int) ≤ r.ct) := by
  unfold startsE at h
  by_cases a1 : isB r = false
  · rw [if_pos a1] at h; injection h with h1 h2; exact absurd h2 (by decide)
  rw [if_neg a1, if_neg (by omega)] at h
  rw [Bool.not_eq_false] at a1
  obtain ⟨hf, hp, hc⟩ := fits_all r s s0 s1 a1
  generalize (if r.fr = 0 then [s] else allL r s) = L at h hf hp hc
  by_cases a3 : 40 < L.length
  · rw [if_pos a3] at h; injection h with h1 h2; exact absurd h2 (by decide)
  rw [if_neg a3] at h
  by_cases a4 : (L.filter fun m => !outB ex m) = []
  · rw [if_pos a4] at h; injection h with h1 h2; exact absurd h2 (by decide)
  rw [if_neg a4] at h
  injection h with h1 _
  have hle : (L.filter fun m => !outB ex m).length ≤ L.length := List.length_filter_le _ _
  subst h1
  refine ⟨a1, List.length_pos_iff.2 a4, by omega, fun i hi => ?_, fun i hi => ?_, ?_⟩
  · have hm := List.mem_filter.1 (List.getElem_mem hi)
    exact ⟨by simpa using hm.2, hf _ hm.1⟩
  · exact List.pairwise_iff_getElem.1 (hp.filter _) i (i + 1) (by omega) hi (by omega)
  · rcases hc with g | g
    · exact Or.inl g
    · right; omega
theorem outB_at (ex : List Int) (m : Int) (h : outB ex m = false) (q : Nat) (hq : q < ex.length) : (ex[q] == m) = false := by
  rw [Bool.eq_false_iff]; intro hc
  have : outB ex m = true := (outB_mem ex m).2 (by rw [beq_iff_eq] at hc; exact hc ▸ List.getElem_mem hq)
  rw [h] at this; cases this

end Go.Proofs.Ytdmplojfidkipaa.Rul

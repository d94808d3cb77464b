/- More plain facts on spans: what the laws of layer 2 ask. No program is named here. -/
import Derived.Test.YtkjkegjekfebpaaSpMath
namespace Spn

theorem meet_idem (a b : Sp) : meet (meet a b) a = meet a b := by
  rcases meet_cases a b with ⟨h1, h2, h3, h4⟩ | ⟨h1, h2⟩
  · have hm := (ok_meet a b).2 ⟨h1, h2, h3⟩
    rw [h4] at hm ⊢
    rcases meet_cases (max a.1 b.1, min a.2 b.2) a with ⟨k1, k2, k3, k4⟩ | ⟨k1, k2⟩
    · rw [k4]; ext <;> simp only <;> omega
    · exact absurd ⟨hm, h1, by simp only; omega⟩ k1
  · rw [h2]
    rcases meet_cases (0, 0) a with ⟨k1, _⟩ | ⟨_, k2⟩
    · exact absurd k1 not_ok0
    · exact k2
theorem within_meet (a b : Sp) (ha : Ok a) (hb : Ok b) : withinB a b = decide (meet a b = a) := by
  rw [within_ref]; unfold withinR
  apply decide_eq_decide.2
  rcases meet_cases a b with ⟨h1, h2, h3, h4⟩ | ⟨h1, h2⟩
  · rw [h4]
    constructor
    · rintro (h | ⟨_, h⟩)
      · exact absurd ha h
      · ext <;> simp only <;> omega
    · intro h
      have e1 := congrArg Prod.fst h
      have e2 := congrArg Prod.snd h
      simp only at e1 e2
      exact Or.inr ⟨hb, by omega, by omega⟩
  · rw [h2]
    constructor
    · rintro (h | ⟨_, h⟩)
      · exact absurd ha h
      · exact absurd ⟨ha, hb, by unfold Ok at ha hb; omega⟩ h1
    · intro h; rw [← h] at ha; exact absurd ha not_ok0
theorem canon_two (a b : Sp) (ha : Ok a) (hb : Ok b) : canon [a, b] = if Tch a b then [(min a.1 b.1, max a.2 b.2)] else if b.2 < a.1 then [b, a] else [a, b] := by
  have e : canon [a, b] = addL (addL [] a) b := by
    unfold canon; simp only [List.foldl_cons, List.foldl_nil]; unfold addR; rw [if_pos ha, if_pos hb]
  rw [e]; simp only [addL]
theorem touch_canon (a b : Sp) (ha : Ok a) (hb : Ok b) : touchB a b = decide ((canon [a, b]).length = 1) := by
  rw [canon_two a b ha hb]; unfold touchB
  apply decide_eq_decide.2
  by_cases h : Tch a b
  · simp [h]
  · rw [if_neg h]
    split <;> simp [h]
theorem meet_touch (a b : Sp) (h : Ok (meet a b)) : touchB a b = true := by
  have h1 := (ok_meet a b).1 h
  apply decide_eq_true
  exact ⟨h1.1, h1.2.1, by omega, by omega⟩
theorem in_ok (a : Sp) (m : Int) : inB a m = true ↔ Ok a ∧ a.1 ≤ m ∧ m < a.2 := by unfold inB; simp
/-- is a minute in one of a row. -/
def inL (l : List Sp) (m : Int) : Bool := l.any fun a => inB a m
theorem inL_has (l : List Sp) (m : Int) : inL l m = true ↔ Has l m := by
  unfold inL Has
  rw [List.any_eq_true]
  constructor
  · rintro ⟨a, h1, h2⟩; exact ⟨a, h1, (in_ok a m).1 h2⟩
  · rintro ⟨a, h1, h2⟩; exact ⟨a, h1, (in_ok a m).2 h2⟩
theorem inL_eq {l k : List Sp} {m : Int} (h : Has l m ↔ Has k m) : inL l m = inL k m := by
  rw [Bool.eq_iff_iff, inL_has, inL_has]; exact h
theorem inL_canon (l : List Sp) (m : Int) : inL (canon l) m = inL l m := inL_eq ((canon_neat l).2 m)
theorem inL_minus (a b : Sp) (m : Int) : inL (minus a b) m = (inB a m && !inB b m) := by
  rw [Bool.eq_iff_iff, inL_has, (neat_minus a b).2]
  simp
theorem inL_take (l : List Sp) (m : Int) (k : Nat) (h : k < l.length) : inL (l.take (k + 1)) m = (inL (l.take k) m || inB l[k] m) := by
  rw [List.take_succ_eq_append_getElem h]; unfold inL; rw [List.any_append]; simp only [List.any_cons, List.any_nil, Bool.or_false]
theorem inL_true (l : List Sp) (m : Int) (k : Nat) (h : k < l.length) (hi : inB l[k] m = true) : inL l m = true := by
  unfold inL; rw [List.any_eq_true]; exact ⟨_, List.getElem_mem h, hi⟩
/-- the sum of a row's lengths. -/
def sumL (l : List Sp) : Int := (l.map long).sum
theorem sumL_take (l : List Sp) (k : Nat) (h : k < l.length) : sumL (l.take (k + 1)) = sumL (l.take k) + long l[k] := by
  rw [List.take_succ_eq_append_getElem h]; unfold sumL; rw [List.map_append, List.sum_append_int]; simp only [List.map_cons, List.map_nil, List.sum_cons, List.sum_nil]; omega
theorem sumL_bd (l : List Sp) : 0 ≤ sumL l ∧ sumL l ≤ 52596000 * (l.length : Int) := by
  induction l with
  | nil => simp [sumL]
  | cons a l ih =>
    have h := long_bd a
    have e : sumL (a :: l) = long a + sumL l := by unfold sumL; simp
    rw [e, List.length_cons]; omega
theorem sum_if (c : Prop) [Decidable c] (a : Sp) : sumL (if c then [a] else []) = if c then long a else 0 := by
  split <;> simp [sumL]
theorem sumL_append (l k : List Sp) : sumL (l ++ k) = sumL l + sumL k := by unfold sumL; simp
theorem long_minus (a b : Sp) : long a = long (meet a b) + sumL (minus a b) := by
  rw [minus_ref]; unfold minusR
  by_cases ha : Ok a
  · rw [if_pos ha]
    rcases meet_cases a b with ⟨h1, h2, h3, h4⟩ | ⟨h1, h2⟩
    · have hm := (ok_meet a b).2 ⟨h1, h2, h3⟩
      rw [if_pos hm, sumL_append, sum_if, sum_if, (long_pos _ hm).1, (long_pos a ha).1, h4]
      simp only
      have o1 := h1
      have o2 := h2
      unfold Ok at o1 o2
      have e1 : a.1 < max a.1 b.1 → long (a.1, max a.1 b.1) = max a.1 b.1 - a.1 := fun h => (long_pos _ (by unfold Ok; simp only; omega)).1
      have e2 : min a.2 b.2 < a.2 → long (min a.2 b.2, a.2) = a.2 - min a.2 b.2 := fun h => (long_pos _ (by unfold Ok; simp only; omega)).1
      by_cases c1 : a.1 < max a.1 b.1 <;> by_cases c2 : min a.2 b.2 < a.2
      · rw [if_pos c1, if_pos c2, e1 c1, e2 c2]; omega
      · rw [if_pos c1, if_neg c2, e1 c1]; omega
      · rw [if_neg c1, if_pos c2, e2 c2]; omega
      · rw [if_neg c1, if_neg c2]; omega
    · have hm : ¬ Ok (meet a b) := by rw [h2]; exact not_ok0
      rw [if_neg hm, long_no _ hm]; simp [sumL]
  · have hm : ¬ Ok (meet a b) := fun h => ha ((ok_meet a b).1 h).1
    rw [if_neg ha, long_no _ ha, long_no _ hm]; simp [sumL]
theorem within_minus (a b : Sp) : withinB a b = decide ((minus a b).length = 0) := by
  rw [within_ref, minus_ref]; unfold withinR minusR
  apply decide_eq_decide.2
  by_cases ha : Ok a
  · rw [if_pos ha]
    rcases meet_cases a b with ⟨h1, h2, h3, h4⟩ | ⟨h1, h2⟩
    · rw [if_pos ((ok_meet a b).2 ⟨h1, h2, h3⟩), h4]
      simp only [List.length_append]
      constructor
      · rintro (h | ⟨_, h⟩)
        · exact absurd ha h
        · rw [if_neg (by omega), if_neg (by omega)]; rfl
      · intro h
        refine Or.inr ⟨h2, ?_, ?_⟩
        · by_cases c : a.1 < max a.1 b.1
          · rw [if_pos c] at h; simp at h
          · omega
        · by_cases c : min a.2 b.2 < a.2
          · rw [if_pos c] at h; simp at h
          · omega
    · have hm : ¬ Ok (meet a b) := by rw [h2]; exact not_ok0
      rw [if_neg hm]
      constructor
      · rintro (h | ⟨h, h'⟩)
        · exact absurd ha h
        · exact absurd ⟨ha, h, by unfold Ok at ha h; omega⟩ h1
      · intro h; simp at h
  · rw [if_neg ha]; simp [ha]
theorem neat_next : ∀ (l : List Sp), Neat l → ∀ i (h : i + 1 < l.length), l[i].2 < l[i + 1].1
  | [], _, i, h => by simp at h
  | a :: l, hn, 0, h => hn.2.1 _ (List.getElem_mem (by simpa using h))
  | a :: l, hn, i + 1, h => neat_next l hn.2.2 i (by simpa using h)
theorem tch_far (a b : Sp) (h : a.2 < b.1) : touchB a b = false := by
  apply decide_eq_false; intro hc; have := hc.2.2.2; omega
theorem has_rot (l : List Sp) (k : Nat) (hk : k < l.length) (m : Int) : Has (l.drop k ++ l.take k ++ [l[k]]) m ↔ Has l m := by
  rw [has_append, has_append, has_one]
  have e : Has l m ↔ Has (l.take k) m ∨ Has (l.drop k) m := by rw [← has_append, List.take_append_drop]
  rw [e]
  constructor
  · rintro ((h | h) | h)
    · exact Or.inr h
    · exact Or.inl h
    · refine e.1 ⟨l[k], List.getElem_mem hk, h⟩
  · rintro (h | h)
    · exact Or.inl (Or.inr h)
    · exact Or.inl (Or.inl h)
/-- each of a row cut at one span. -/
def cutL (l : List Sp) (at_ : Sp) : List Sp := l.flatMap fun a => meet a at_ :: minus a at_
theorem cutL_take (l : List Sp) (s : Sp) (k : Nat) (h : k < l.length) : cutL (l.take (k + 1)) s = cutL (l.take k) s ++ [meet l[k] s] ++ minus l[k] s := by
  rw [List.take_succ_eq_append_getElem h]; unfold cutL; rw [List.flatMap_append, List.append_assoc]; simp only [List.flatMap_cons, List.flatMap_nil, List.append_nil, List.cons_append, List.nil_append]
theorem has_cut (l : List Sp) (s : Sp) (m : Int) : Has (cutL l s) m ↔ Has l m := by
  induction l with
  | nil => exact Iff.rfl
  | cons a l ih =>
    have e : cutL (a :: l) s = meet a s :: (minus a s ++ cutL l s) := by simp [cutL]
    rw [e, has_cons, has_append, ih, has_cons, ← or_assoc]
    refine or_congr ?_ Iff.rfl
    rw [← in_ok, in_meet, (neat_minus a s).2, ← in_ok]
    cases inB a m <;> cases inB s m <;> simp
theorem minus_len (a b : Sp) : (minus a b).length ≤ 2 := by
  unfold minus
  split
  · exact List.length_filter_le _ _
  · have := List.length_filter_le okB [a]; simp at this; simp [valid]; omega
theorem cutL_len (l : List Sp) (s : Sp) : (cutL l s).length ≤ 3 * l.length := by
  induction l with
  | nil => simp [cutL]
  | cons a l ih =>
    have e : cutL (a :: l) s = meet a s :: (minus a s ++ cutL l s) := by simp [cutL]
    have hm := minus_len a s
    rw [e]; simp; omega
theorem canon_canon (l : List Sp) : canon (canon l) = canon l := canon_ext _ _ fun m => (canon_neat l).2 m
/-- pieces, each z long, from the last one on. -/
def gridL (z : Int) : Nat → List Sp
  | 0 => []
  | k + 1 => ((k : Int) * z, ((k : Int) + 1) * z) :: gridL z k
theorem gridL_len (z : Int) : ∀ k, (gridL z k).length = k
  | 0 => rfl
  | k + 1 => by rw [gridL, List.length_cons, gridL_len z k]
theorem gridL_get (z : Int) : ∀ (k i : Nat) (h : i < (gridL z k).length), (gridL z k)[i] = (((k - 1 - i : Nat) : Int) * z, (((k - 1 - i : Nat) : Int) + 1) * z)
  | 0, i, h => absurd h (Nat.not_lt_zero i)
  | k + 1, 0, h => by simp [gridL]
  | k + 1, i + 1, h => by
    have hi : i < (gridL z k).length := by simpa [gridL] using h
    have := gridL_get z k i hi
    simp only [gridL, List.getElem_cons_succ]
    rw [this, show k + 1 - 1 - (i + 1) = k - 1 - i by omega]
theorem grid_ok (z : Int) (k : Nat) (hz : 1 ≤ z) (h : ((k : Int) + 1) * z ≤ 52596000) : Ok ((k : Int) * z, ((k : Int) + 1) * z) := by
  have h1 : ((k : Int) + 1) * z = (k : Int) * z + z := by rw [Int.add_mul, Int.one_mul]
  have h2 : 0 ≤ (k : Int) * z := Int.mul_nonneg (by omega) (by omega)
  unfold Ok; simp only; omega
theorem grid_has (z : Int) (hz : 1 ≤ z) : ∀ (k : Nat), (k : Int) * z ≤ 52596000 → ∀ m, Has (gridL z k) m ↔ 0 ≤ m ∧ m < (k : Int) * z
  | 0, _, m => ⟨fun h => absurd h (has_nil m), fun h => by simp at h; omega⟩
  | k + 1, h, m => by
    have e : ((k + 1 : Nat) : Int) * z = (k : Int) * z + z := by rw [Int.natCast_succ, Int.add_mul, Int.one_mul]
    have h0 : 0 ≤ (k : Int) * z := Int.mul_nonneg (by omega) (by omega)
    have e2 : ((k : Int) + 1) * z = (k : Int) * z + z := by rw [Int.add_mul, Int.one_mul]
    have ok := grid_ok z k hz (by rw [e2]; omega)
    rw [gridL, has_cons, grid_has z hz k (by omega) m, e, e2]
    simp only
    rw [e2] at ok
    constructor
    · rintro (⟨_, h1, h2⟩ | h1) <;> omega
    · intro h1
      by_cases c : m < (k : Int) * z
      · exact Or.inr ⟨h1.1, c⟩
      · exact Or.inl ⟨ok, by omega, by omega⟩
theorem canon_one (a : Sp) (h : Ok a) : canon [a] = [a] := by
  unfold canon; simp only [List.foldl_cons, List.foldl_nil]; unfold addR; rw [if_pos h]; rfl
theorem grid_whole (z : Int) (hz : 1 ≤ z) (k : Nat) (hk : 1 ≤ k) (h : (k : Int) * z ≤ 52596000) : canon (gridL z k) = [(0, (k : Int) * z)] := by
  have hp : 1 * 1 ≤ (k : Int) * z := Int.mul_le_mul (by omega) hz (by omega) (by omega)
  have ok : Ok (0, (k : Int) * z) := by unfold Ok; simp only; omega
  rw [← canon_one _ ok]
  refine canon_ext _ _ fun m => ?_
  rw [grid_has z hz k h, has_one]
  simp only [ok, true_and]
/-- the piece that has place n from the front. -/
def piece (z : Int) (n : Nat) : Sp := ((n : Int) * z, ((n : Int) + 1) * z)
theorem grid_get (z : Int) (k i : Nat) (h : i < (gridL z k).length) : (gridL z k)[i] = piece z (k - 1 - i) := gridL_get z k i h
/-- all but the piece that has place j from the front. -/
def restL (z : Int) (k j i : Nat) : List Sp := ((List.range i).filter fun n => n ≠ k - 1 - j).map fun n => piece z (k - 1 - n)
theorem restL_hit (z : Int) (k j i : Nat) (hne : i ≠ k - 1 - j) : restL z k j (i + 1) = restL z k j i ++ [piece z (k - 1 - i)] := by
  unfold restL; rw [List.range_succ, List.filter_append, List.map_append]; simp [hne]
theorem restL_skip (z : Int) (k j i : Nat) (hne : i = k - 1 - j) : restL z k j (i + 1) = restL z k j i := by
  unfold restL; rw [List.range_succ, List.filter_append, List.map_append]; simp [hne]
theorem restL_len (z : Int) (k j i : Nat) : (restL z k j i).length ≤ i := by
  unfold restL
  rw [List.length_map]
  refine Nat.le_trans (List.length_filter_le _ _) ?_
  rw [List.length_range]; exact Nat.le_refl _
theorem mul_mono (z : Int) (hz : 1 ≤ z) (a b : Nat) (h : a ≤ b) : (a : Int) * z ≤ (b : Int) * z := Int.mul_le_mul_of_nonneg_right (by omega) (by omega)
theorem succ_mul (z : Int) (n : Nat) : ((n : Int) + 1) * z = (n : Int) * z + z := by rw [Int.add_mul, Int.one_mul]
theorem rest_has (z : Int) (hz : 1 ≤ z) (k j : Nat) (hj : j < k) (h : (k : Int) * z ≤ 52596000) (m : Int) : Has (restL z k j k) m ↔ (0 ≤ m ∧ m < (k : Int) * z) ∧ ¬ ((j : Int) * z ≤ m ∧ m < ((j : Int) + 1) * z) := by
  constructor
  · rintro ⟨a, ha, _, h1, h2⟩
    unfold restL at ha
    obtain ⟨n, hn, rfl⟩ := List.mem_map.1 ha
    obtain ⟨hn1, hn2⟩ := List.mem_filter.1 hn
    have hn3 := List.mem_range.1 hn1
    have hn4 : n ≠ k - 1 - j := by simpa using hn2
    simp only [piece] at h1 h2
    have e1 := succ_mul z (k - 1 - n)
    have e2 := succ_mul z j
    have e3 := mul_mono z hz (k - 1 - n + 1) k (by omega)
    rw [Int.natCast_succ, succ_mul] at e3
    have e4 : 0 ≤ ((k - 1 - n : Nat) : Int) * z := Int.mul_nonneg (by omega) (by omega)
    refine ⟨⟨by omega, by omega⟩, fun hc => ?_⟩
    rcases Nat.lt_or_ge (k - 1 - n) j with hlt | hge
    · have e5 := mul_mono z hz (k - 1 - n + 1) j hlt
      rw [Int.natCast_succ, succ_mul] at e5
      omega
    · have e5 := mul_mono z hz (j + 1) (k - 1 - n) (by omega)
      rw [Int.natCast_succ, succ_mul] at e5
      omega
  · rintro ⟨h1, h2⟩
    obtain ⟨a, ha, hok, h3, h4⟩ := (grid_has z hz k h m).2 h1
    obtain ⟨i, hi, e⟩ := List.getElem_of_mem ha
    rw [grid_get] at e
    have hik : i < k := by rw [gridL_len] at hi; exact hi
    subst e
    refine ⟨_, ?_, hok, h3, h4⟩
    unfold restL
    refine List.mem_map.2 ⟨i, List.mem_filter.2 ⟨List.mem_range.2 hik, ?_⟩, rfl⟩
    simp only [ne_eq, decide_not, Bool.not_eq_eq_eq_not, Bool.not_true, decide_eq_false_iff_not]
    intro hc
    apply h2
    rw [show k - 1 - i = j by omega] at h3 h4
    exact ⟨h3, h4⟩
theorem rest_minus (z : Int) (hz : 1 ≤ z) (k j : Nat) (hj : j < k) (h : (k : Int) * z ≤ 52596000) : canon (restL z k j k) = minus (0, (k : Int) * z) ((j : Int) * z, ((j : Int) + 1) * z) := by
  have hp : 1 * 1 ≤ (k : Int) * z := Int.mul_le_mul (by omega) hz (by omega) (by omega)
  have ok : Ok (0, (k : Int) * z) := by unfold Ok; simp only; omega
  have e3 := mul_mono z hz (j + 1) k (by omega)
  rw [Int.natCast_succ] at e3
  have ok2 := grid_ok z j hz (by omega)
  obtain ⟨hn, hm⟩ := neat_minus (0, (k : Int) * z) ((j : Int) * z, ((j : Int) + 1) * z)
  refine (canon_of_neat _ _ hn fun m => ?_).symm
  rw [hm, rest_has z hz k j hj h, in_ok]
  unfold inB
  simp only [ok, ok2, true_and, decide_eq_false_iff_not]

end Spn

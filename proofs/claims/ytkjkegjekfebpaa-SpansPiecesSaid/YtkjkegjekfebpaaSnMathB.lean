/- Plain facts on neat rows for the laws of layer 3: which minutes tell what Has and Meets say; teeth; sums. -/
import Derived.Test.YtkjkegjekfebpaaSnMath
namespace Spn

theorem meets_min (l : List Sp) (a : Sp) : 0 < (partR l a).length ↔ ∃ m, Has l m ∧ (Ok a ∧ a.1 ≤ m ∧ m < a.2) := by
  constructor
  · intro h
    obtain ⟨c, hc⟩ := List.exists_mem_of_length_pos h
    obtain ⟨b, _, _, hok⟩ := partR_mem l a c hc
    have o := hok
    unfold Ok at o
    exact ⟨c.1, (has_part l a c.1).1 ⟨c, hc, hok, by omega, by omega⟩⟩
  · rintro ⟨m, hm⟩
    obtain ⟨c, hc, _⟩ := (has_part l a m).2 hm
    exact List.length_pos_of_mem hc
theorem lacks_min (l : List Sp) (a : Sp) : (lackR l a).length = 0 ↔ ∀ m, (Ok a ∧ a.1 ≤ m ∧ m < a.2) → Has l m := by
  have hl := lack_neat l a
  constructor
  · intro h0 m hm
    apply Classical.byContradiction
    intro hc
    have := (hl.2 m).2 ⟨hm, hc⟩
    rw [List.eq_nil_of_length_eq_zero h0] at this
    exact has_nil m this
  · intro hall
    rcases hL : lackR l a with _ | ⟨c, r⟩
    · rfl
    · exfalso
      have hn' := hl.1
      rw [hL] at hn'
      have okc := hn'.1
      unfold Ok at okc
      have := (hl.2 c.1).1 (by rw [hL]; exact ⟨c, List.mem_cons_self, hn'.1, by omega, by omega⟩)
      exact this.2 (hall _ this.1)

/-- which tooth the i-th cut takes. -/
def tooth (back : Bool) (k i : Nat) : Nat := if back then k - 1 - i else i
/-- the row behind so many cuts. -/
def teeth (f : Int) (back : Bool) (k : Nat) : Nat → List Sp
  | 0 => addR [] (f, f + 2 * (k : Int))
  | i + 1 => subR (teeth f back k i) (f + 2 * (tooth back k i : Int) + 1, f + 2 * (tooth back k i : Int) + 2)
theorem teeth_neat (f : Int) (back : Bool) (k : Nat) : ∀ i, Neat (teeth f back k i)
  | 0 => (addR_neat [] _ trivial).1
  | i + 1 => subR_neat _ _ (teeth_neat f back k i)
theorem teeth_len (f : Int) (back : Bool) (k : Nat) : ∀ i, (teeth f back k i).length ≤ i + 1
  | 0 => by
    unfold teeth addR
    split
    · exact addL_len [] _
    · simp
  | i + 1 => by
    have h1 := teeth_len f back k i
    have h2 := subR_len (teeth f back k i) (f + 2 * (tooth back k i : Int) + 1, f + 2 * (tooth back k i : Int) + 2) (teeth_neat f back k i)
    exact Nat.le_trans h2 (by omega)
theorem teeth_has (f : Int) (back : Bool) (k : Nat) (hf : 0 ≤ f) (hb : f + 2 * (k : Int) ≤ 52596000) (hk : 1 ≤ k) : ∀ i, i ≤ k → ∀ m, Has (teeth f back k i) m ↔ (f ≤ m ∧ m < f + 2 * (k : Int)) ∧ ∀ q, q < i → m ≠ f + 2 * (tooth back k q : Int) + 1
  | 0, _, m => by
    unfold teeth
    rw [(addR_neat [] _ trivial).2 m, has_one]
    constructor
    · rintro (h | h)
      · exact absurd h (has_nil m)
      · exact ⟨h.2, fun q hq => absurd hq (Nat.not_lt_zero q)⟩
    · rintro ⟨h, _⟩
      exact Or.inr ⟨by unfold Ok; simp only; omega, h⟩
  | i + 1, hi, m => by
    have ih := teeth_has f back k hf hb hk i (by omega) m
    have ht : tooth back k i < k := by unfold tooth; split <;> omega
    unfold teeth
    rw [has_flat, ih]
    constructor
    · rintro ⟨⟨h1, h2⟩, h3⟩
      refine ⟨h1, fun q hq => ?_⟩
      by_cases hqi : q = i
      · subst hqi
        intro he
        apply h3
        refine ⟨by unfold Ok; simp only; omega, by simp only; omega, by simp only; omega⟩
      · exact h2 q (by omega)
    · rintro ⟨h1, h2⟩
      refine ⟨⟨h1, fun q hq => h2 q (by omega)⟩, ?_⟩
      rintro ⟨_, h3, h4⟩
      simp only at h3 h4
      exact h2 i (by omega) (by omega)
/-- every second minute. -/
def comb (f : Int) : Nat → List Sp
  | 0 => []
  | k + 1 => comb f k ++ [(f + 2 * (k : Int), f + 2 * (k : Int) + 1)]
theorem comb_len (f : Int) : ∀ k, (comb f k).length = k
  | 0 => rfl
  | k + 1 => by rw [comb, List.length_append, comb_len f k]; rfl
theorem comb_neat (f : Int) (hf : 0 ≤ f) : ∀ k : Nat, f + 2 * (k : Int) ≤ 52596000 → Neat (comb f k) ∧ (∀ a, a ∈ comb f k → a.2 < f + 2 * (k : Int)) ∧ ∀ m, Has (comb f k) m ↔ ∃ j : Nat, j < k ∧ m = f + 2 * (j : Int)
  | 0, _ => ⟨trivial, (fun a h => by cases h), fun m => ⟨fun h => absurd h (has_nil m), fun ⟨j, hj, _⟩ => absurd hj (Nat.not_lt_zero j)⟩⟩
  | k + 1, h => by
    obtain ⟨h1, h2, h3⟩ := comb_neat f hf k (by omega)
    have ok : Ok (f + 2 * (k : Int), f + 2 * (k : Int) + 1) := by unfold Ok; simp only; omega
    refine ⟨neat_append _ _ h1 ⟨ok, fun b hb => by simp at hb, trivial⟩ fun a ha b hb => ?_, fun a ha => ?_, fun m => ?_⟩
    · rw [List.mem_singleton.1 hb]; exact h2 a ha
    · rcases List.mem_append.1 ha with ha | ha
      · have := h2 a ha; omega
      · rw [List.mem_singleton.1 ha]; simp only; omega
    · rw [comb, has_append, h3 m, has_one]
      constructor
      · rintro (⟨j, hj, hm⟩ | ⟨_, hm⟩)
        · exact ⟨j, by omega, hm⟩
        · simp only at hm; exact ⟨k, by omega, by omega⟩
      · rintro ⟨j, hj, hm⟩
        by_cases hjk : j = k
        · subst hjk; exact Or.inr ⟨ok, by simp only; omega, by simp only; omega⟩
        · exact Or.inl ⟨j, by omega, hm⟩
theorem comb_sum (f : Int) (hf : 0 ≤ f) : ∀ k : Nat, f + 2 * (k : Int) ≤ 52596000 → sumL (comb f k) = (k : Int)
  | 0, _ => rfl
  | k + 1, h => by
    rw [comb, sumL_append, comb_sum f hf k (by omega)]
    have ok : Ok (f + 2 * (k : Int), f + 2 * (k : Int) + 1) := by unfold Ok; simp only; omega
    have e : sumL [(f + 2 * (k : Int), f + 2 * (k : Int) + 1)] = long (f + 2 * (k : Int), f + 2 * (k : Int) + 1) := by
      unfold sumL; simp
    rw [e, (long_pos _ ok).1]
    simp only
    omega
theorem tooth_all (back : Bool) (k j : Nat) (h : j < k) : ∃ q, q < k ∧ tooth back k q = j := by
  cases back
  · exact ⟨j, h, rfl⟩
  · exact ⟨k - 1 - j, by omega, by show k - 1 - (k - 1 - j) = j; omega⟩
theorem tooth_lt (back : Bool) (k q : Nat) (h : q < k) : tooth back k q < k := by
  unfold tooth; split <;> omega
theorem teeth_comb (f : Int) (back : Bool) (k : Nat) (hf : 0 ≤ f) (hb : f + 2 * (k : Int) ≤ 52596000) (hk : 1 ≤ k) : teeth f back k k = comb f k := by
  have hc := comb_neat f hf k hb
  refine neat_ext _ _ (teeth_neat f back k k) hc.1 fun m => ?_
  rw [teeth_has f back k hf hb hk k (Nat.le_refl _) m, hc.2.2 m]
  constructor
  · rintro ⟨⟨h1, h2⟩, h3⟩
    obtain ⟨j, hj⟩ : ∃ j : Nat, (m - f) / 2 = (j : Int) := ⟨((m - f) / 2).toNat, by omega⟩
    have hjk : j < k := by omega
    obtain ⟨q, hq, ht⟩ := tooth_all back k j hjk
    have h4 := h3 q hq
    rw [ht] at h4
    exact ⟨j, hjk, by omega⟩
  · rintro ⟨j, hj, rfl⟩
    exact ⟨by omega, fun q _ => by omega⟩
theorem comb_meets (f : Int) (k : Nat) (hf : 0 ≤ f) (hb : f + 2 * (k : Int) ≤ 52596000) : decide (0 < (partR (comb f k) (f + 1, f + 2)).length) = false := by
  apply decide_eq_false
  rw [meets_min]
  rintro ⟨m, h1, _, h2, h3⟩
  obtain ⟨j, _, hm⟩ := ((comb_neat f hf k hb).2.2 m).1 h1
  simp only at h2 h3
  omega
theorem comb_has (f : Int) (k : Nat) (hf : 0 ≤ f) (hb : f + 2 * (k : Int) ≤ 52596000) (hk : 1 ≤ k) : decide ((lackR (comb f k) (f, f + 1)).length = 0) = true := by
  apply decide_eq_true
  rw [lacks_min]
  rintro m ⟨_, h2, h3⟩
  simp only at h2 h3
  exact ((comb_neat f hf k hb).2.2 m).2 ⟨0, by omega, by simp only [Int.natCast_zero, Int.mul_zero]; omega⟩

/-- how many of the first minutes. -/
def cnt (p : Int → Bool) : Nat → Int
  | 0 => 0
  | n + 1 => cnt p n + if p (n : Int) then 1 else 0
theorem cnt_congr (p q : Int → Bool) (h : ∀ m, 0 ≤ m → p m = q m) : ∀ n, cnt p n = cnt q n
  | 0 => rfl
  | n + 1 => by rw [cnt, cnt, cnt_congr p q h n, h (n : Int) (by omega)]
theorem cnt_or (p q r : Int → Bool) (h : ∀ m, 0 ≤ m → r m = (p m || q m)) (hd : ∀ m, 0 ≤ m → (p m && q m) = false) : ∀ n, cnt r n = cnt p n + cnt q n
  | 0 => rfl
  | n + 1 => by
    rw [cnt, cnt, cnt, cnt_or p q r h hd n, h (n : Int) (by omega)]
    have := hd (n : Int) (by omega)
    cases hp : p (n : Int) <;> cases hq : q (n : Int) <;> simp [hp, hq] at this ⊢ <;> omega
theorem cnt_span (f t : Int) (hf : 0 ≤ f) (ht : f ≤ t) : ∀ n : Nat, cnt (fun m => decide (f ≤ m ∧ m < t)) n = if (n : Int) ≤ f then 0 else if (n : Int) ≤ t then (n : Int) - f else t - f
  | 0 => by rw [cnt, if_pos (by simpa using hf)]
  | n + 1 => by
    have ih := cnt_span f t hf ht n
    show cnt (fun m => decide (f ≤ m ∧ m < t)) n + (if decide (f ≤ (n : Int) ∧ (n : Int) < t) = true then 1 else 0) = _
    rw [ih]
    by_cases h1 : f ≤ (n : Int) ∧ (n : Int) < t
    · have e : (if decide (f ≤ (n : Int) ∧ (n : Int) < t) = true then (1 : Int) else 0) = 1 := if_pos (decide_eq_true h1)
      rw [e]
      split <;> split <;> (try split) <;> (try split) <;> omega
    · have e : (if decide (f ≤ (n : Int) ∧ (n : Int) < t) = true then (1 : Int) else 0) = 0 := if_neg (by rw [decide_eq_true_eq]; exact h1)
      rw [e]
      split <;> split <;> (try split) <;> (try split) <;> omega
theorem cnt_none : ∀ n, cnt (fun _ => false) n = 0
  | 0 => rfl
  | n + 1 => by rw [cnt, cnt_none n]; rfl
/-- is a minute in the row. -/
def hasm (l : List Sp) (m : Int) : Bool := inL l m
theorem sum_cnt : ∀ l : List Sp, Neat l → ∀ n : Nat, 52596000 ≤ n → sumL l = cnt (hasm l) n
  | [], _, n, _ => by
    have : hasm [] = fun _ => false := by funext m; rfl
    rw [this, cnt_none]; rfl
  | a :: r, h, n, hn => by
    have ok := h.1
    have o := ok
    unfold Ok at o
    have e : sumL (a :: r) = long a + sumL r := by unfold sumL; simp
    rw [e, sum_cnt r h.2.2 n hn, (long_pos a ok).1]
    rw [cnt_or (fun m => decide (a.1 ≤ m ∧ m < a.2)) (hasm r) (hasm (a :: r)) (fun m _ => ?_) (fun m _ => ?_) n]
    · rw [cnt_span a.1 a.2 o.1 (by omega) n, if_neg (by omega)]
      split <;> omega
    · rw [Bool.eq_iff_iff]
      unfold hasm
      rw [Bool.or_eq_true, inL_has, inL_has, has_cons, decide_eq_true_eq]
      constructor
      · rintro (k | k)
        · exact Or.inl k.2
        · exact Or.inr k
      · rintro (k | k)
        · exact Or.inl ⟨ok, k⟩
        · exact Or.inr k
    · rw [Bool.and_eq_false_iff]
      by_cases hm : a.1 ≤ m ∧ m < a.2
      · right
        rw [← Bool.not_eq_true]
        unfold hasm
        rw [inL_has]
        rintro ⟨c, hc, _, k1, k2⟩
        have := h.2.1 c hc
        omega
      · left; exact decide_eq_false hm
/-- two rows without a common minute, and the one of both. -/
theorem sum_add (l k j : List Sp) (hl : Neat l) (hk : Neat k) (hj : Neat j) (h : ∀ m, Has j m ↔ Has l m ∨ Has k m) (hd : ∀ m, Has l m → ¬ Has k m) : sumL j = sumL l + sumL k := by
  obtain ⟨n, hn⟩ : ∃ n : Nat, 52596000 ≤ n := ⟨52596000, Nat.le_refl _⟩
  rw [sum_cnt l hl n hn, sum_cnt k hk n hn, sum_cnt j hj n hn]
  refine cnt_or _ _ _ (fun m _ => ?_) (fun m _ => ?_) n
  · rw [Bool.eq_iff_iff]; unfold hasm; rw [Bool.or_eq_true, inL_has, inL_has, inL_has]; exact h m
  · rw [← Bool.not_eq_true, Bool.and_eq_true]; unfold hasm; rw [inL_has, inL_has]; rintro ⟨h1, h2⟩; exact hd m h1 h2
theorem sum_one (a : Sp) : sumL (if Ok a then [a] else []) = long a := by
  by_cases h : Ok a
  · rw [if_pos h]; unfold sumL; simp
  · rw [if_neg h, long_no a h]; rfl
theorem one_neat (a : Sp) : Neat (if Ok a then [a] else []) ∧ ∀ m, Has (if Ok a then [a] else []) m ↔ (Ok a ∧ a.1 ≤ m ∧ m < a.2) := by
  by_cases h : Ok a
  · rw [if_pos h]; exact ⟨⟨h, fun b hb => absurd hb (by simp), trivial⟩, fun m => has_one a m⟩
  · rw [if_neg h]; exact ⟨trivial, fun m => ⟨fun k => absurd k (has_nil m), fun k => absurd k.1 h⟩⟩
/-- Add grows the sum by what was lacking. -/
theorem sum_addR (l : List Sp) (a : Sp) (hl : Neat l) : sumL (addR l a) = sumL l + sumL (lackR l a) := by
  have h1 := addR_neat l a hl
  have h2 := lack_neat l a
  refine sum_add l _ _ hl h2.1 h1.1 (fun m => ?_) (fun m hm hc => ((h2.2 m).1 hc).2 hm)
  rw [h1.2 m, h2.2 m, has_one]
  constructor
  · rintro (k | k)
    · exact Or.inl k
    · by_cases hm : Has l m
      · exact Or.inl hm
      · exact Or.inr ⟨k, hm⟩
  · rintro (k | k)
    · exact Or.inl k
    · exact Or.inr k.1
theorem sum_parts (l : List Sp) (a : Sp) (hl : Neat l) : sumL (lackR l a) + sumL (partR l a) = long a := by
  have h2 := lack_neat l a
  rw [← sum_one a]
  symm
  refine sum_add _ _ _ h2.1 (partR_neat l a hl) (one_neat a).1 (fun m => ?_) (fun m hm hc => ((h2.2 m).1 hm).2 ((has_part l a m).1 hc).1)
  rw [(one_neat a).2 m, h2.2 m, has_part]
  constructor
  · intro k
    by_cases hm : Has l m
    · exact Or.inr ⟨hm, k⟩
    · exact Or.inl ⟨k, hm⟩
  · rintro (k | k)
    · exact k.1
    · exact k.2
/-- Cut of what was added. -/
theorem sum_cut (l : List Sp) (a : Sp) (hl : Neat l) : sumL (subR (addR l a) a) = sumL (addR l a) - long a := by
  have h1 := addR_neat l a hl
  have h3 := sum_add (subR (addR l a) a) (if Ok a then [a] else []) (addR l a) (subR_neat _ a h1.1) (one_neat a).1 h1.1 (fun m => ?_) (fun m hm hc => ((has_flat _ a m).1 hm).2 (((one_neat a).2 m).1 hc))
  · rw [sum_one] at h3; omega
  · rw [has_flat, (one_neat a).2 m, h1.2 m, has_one]
    constructor
    · intro k
      by_cases hm : Ok a ∧ a.1 ≤ m ∧ m < a.2
      · exact Or.inr hm
      · exact Or.inl ⟨k, hm⟩
    · rintro (k | k)
      · exact k.1
      · exact Or.inr k
end Spn

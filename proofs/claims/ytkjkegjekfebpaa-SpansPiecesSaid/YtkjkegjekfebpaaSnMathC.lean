/- Plain facts for SpansPieces: pieces apart, all of length two; filled between they are one. -/
import Derived.Test.YtkjkegjekfebpaaSnMathB
namespace Spn

theorem mul_step (i j G : Int) (hG : 0 ≤ G) (h : i + 1 ≤ j) : i * G + G ≤ j * G := by
  have h1 : (i + 1) * G ≤ j * G := Int.mul_le_mul_of_nonneg_right h hG
  rw [Int.add_mul, Int.one_mul] at h1
  exact h1
/-- a row of pieces of two minutes at multiples of G: each of its spans has two minutes. -/
theorem two_each (l : List Sp) (hn : Neat l) (G : Int) (hG : 3 ≤ G) (J : Int → Prop) (h : ∀ m, Has l m ↔ ∃ j, J j ∧ j * G ≤ m ∧ m < j * G + 2) (c : Sp) (hc : c ∈ l) : long c = 2 := by
  have ok := neat_ok l hn c hc
  have o := ok
  unfold Ok at o
  obtain ⟨j, hJ, h1, h2⟩ := (h c.1).1 ⟨c, hc, ok, by omega, by omega⟩
  have other : ∀ q, Has l q → (q < c.1 ∨ c.2 ≤ q) → q + 1 < c.1 ∨ c.2 < q := by
    rintro q ⟨b, hb, okb, g1, g2⟩ hq
    rcases neat_uniq l hn b hb c hc with rfl | g | g <;> omega
  have e1 : c.1 = j * G := by
    rcases (by omega : c.1 = j * G ∨ c.1 = j * G + 1) with e | e
    · exact e
    · exfalso
      rcases other (j * G) ((h _).2 ⟨j, hJ, by omega, by omega⟩) (Or.inl (by omega)) with k | k <;> omega
  have e2 : j * G + 2 ≤ c.2 := by
    apply Int.not_lt.1
    intro hlt
    rcases other (j * G + 1) ((h _).2 ⟨j, hJ, by omega, by omega⟩) (Or.inr (by omega)) with k | k <;> omega
  have e3 : c.2 ≤ j * G + 2 := by
    apply Int.not_lt.1
    intro hlt
    obtain ⟨i, _, k1, k2⟩ := (h (j * G + 2)).1 ⟨c, hc, ok, by omega, by omega⟩
    rcases (by omega : i ≤ j ∨ j + 1 ≤ i) with hi | hi
    · have := Int.mul_le_mul_of_nonneg_right hi (by omega : 0 ≤ G)
      omega
    · have := mul_step j i G (by omega) hi
      omega
  rw [(long_pos c ok).1]
  omega
theorem sum_two : ∀ l : List Sp, (∀ c, c ∈ l → long c = 2) → sumL l = 2 * (l.length : Int)
  | [], _ => rfl
  | a :: r, h => by
    have e : sumL (a :: r) = long a + sumL r := by unfold sumL; simp
    rw [e, sum_two r fun c hc => h c (List.mem_cons_of_mem _ hc), h a List.mem_cons_self, List.length_cons]
    omega
/-- where the i-th piece lies. -/
def pc (a k G : Int) (i : Nat) : Int := ((i : Int) * a % k) * G
def pcs (a k G : Int) : Nat → List Sp
  | 0 => []
  | i + 1 => addR (pcs a k G i) (pc a k G i, pc a k G i + 2)
/-- filled between. -/
def fill (l : List Sp) (G : Int) : Nat → List Sp
  | 0 => l
  | i + 1 => addR (fill l G i) ((i : Int) * G + 1, ((i : Int) + 1) * G + 1)
theorem pcs_neat (a k G : Int) : ∀ i, Neat (pcs a k G i)
  | 0 => trivial
  | i + 1 => (addR_neat _ _ (pcs_neat a k G i)).1
theorem fill_neat (l : List Sp) (G : Int) (hl : Neat l) : ∀ i, Neat (fill l G i)
  | 0 => hl
  | i + 1 => (addR_neat _ _ (fill_neat l G hl i)).1
theorem addR_len' (l : List Sp) (a : Sp) : (addR l a).length ≤ l.length + 1 := by
  unfold addR; split
  · exact addL_len l a
  · omega
theorem pcs_len (a k G : Int) : ∀ i, (pcs a k G i).length ≤ i
  | 0 => Nat.le_refl _
  | i + 1 => Nat.le_trans (addR_len' _ _) (by have := pcs_len a k G i; omega)
theorem fill_len (l : List Sp) (G : Int) : ∀ i, (fill l G i).length ≤ l.length + i
  | 0 => Nat.le_refl _
  | i + 1 => Nat.le_trans (addR_len' _ _) (by have := fill_len l G i; omega)
theorem pc_bd (a k G : Int) (hk : 1 ≤ k) (hG : 0 ≤ G) (i : Nat) : 0 ≤ pc a k G i ∧ pc a k G i ≤ (k - 1) * G := by
  have h1 := Int.emod_nonneg ((i : Int) * a) (by omega : k ≠ 0)
  have h2 := Int.emod_lt_of_pos ((i : Int) * a) (by omega : 0 < k)
  exact ⟨Int.mul_nonneg h1 hG, Int.mul_le_mul_of_nonneg_right (by omega) hG⟩
theorem pcs_has (a k G : Int) (hk : 1 ≤ k) (hG : 3 ≤ G) (hb : (k - 1) * G + 2 ≤ 52596000) : ∀ i : Nat, ∀ m, Has (pcs a k G i) m ↔ ∃ j, (∃ q : Nat, q < i ∧ j = (q : Int) * a % k) ∧ j * G ≤ m ∧ m < j * G + 2
  | 0, m => ⟨fun h => absurd h (has_nil m), fun ⟨_, ⟨q, hq, _⟩, _⟩ => absurd hq (Nat.not_lt_zero q)⟩
  | i + 1, m => by
    have ih := pcs_has a k G hk hG hb i m
    have hp := pc_bd a k G hk (by omega) i
    rw [pcs, (addR_neat _ _ (pcs_neat a k G i)).2 m, ih, has_one]
    constructor
    · rintro (⟨j, ⟨q, hq, hj⟩, h⟩ | ⟨_, h⟩)
      · exact ⟨j, ⟨q, by omega, hj⟩, h⟩
      · exact ⟨(i : Int) * a % k, ⟨i, by omega, rfl⟩, h⟩
    · rintro ⟨j, ⟨q, hq, hj⟩, h⟩
      by_cases hqi : q = i
      · subst hqi hj
        exact Or.inr ⟨by unfold Ok; simp only; omega, h⟩
      · exact Or.inl ⟨j, ⟨q, by omega, hj⟩, h⟩
theorem pcs_sum (a k G : Int) (hk : 1 ≤ k) (hG : 3 ≤ G) (hb : (k - 1) * G + 2 ≤ 52596000) (i : Nat) : sumL (pcs a k G i) = 2 * ((pcs a k G i).length : Int) :=
  sum_two _ fun c hc => two_each _ (pcs_neat a k G i) G hG _ (pcs_has a k G hk hG hb i) c hc
theorem fill_has (l : List Sp) (G : Int) (hl : Neat l) (hG : 3 ≤ G) : ∀ i : Nat, (i : Int) * G + 1 ≤ 52596000 → ∀ m, Has (fill l G i) m ↔ Has l m ∨ (1 ≤ m ∧ m < (i : Int) * G + 1)
  | 0, _, m => by
    show Has l m ↔ _
    rw [Int.natCast_zero, Int.zero_mul]
    constructor
    · exact Or.inl
    · rintro (h | h)
      · exact h
      · omega
  | i + 1, hb, m => by
    have hc : ((i + 1 : Nat) : Int) = (i : Int) + 1 := by omega
    rw [hc] at hb ⊢
    have hs := mul_step (i : Int) ((i : Int) + 1) G (by omega) (Int.le_refl _)
    have h0 : 0 ≤ (i : Int) * G := Int.mul_nonneg (by omega) (by omega)
    have e : ((i : Int) + 1) * G = (i : Int) * G + G := by rw [Int.add_mul, Int.one_mul]
    have ih := fill_has l G hl hG i (by omega) m
    rw [fill, (addR_neat _ _ (fill_neat l G hl i)).2 m, ih, has_one, e]
    constructor
    · rintro ((h | h) | ⟨_, h⟩)
      · exact Or.inl h
      · exact Or.inr (by omega)
      · simp only at h; exact Or.inr (by omega)
    · rintro (h | h)
      · exact Or.inl (Or.inl h)
      · by_cases hm : m < (i : Int) * G + 1
        · exact Or.inl (Or.inr ⟨h.1, hm⟩)
        · exact Or.inr ⟨by unfold Ok; simp only; omega, by simp only; omega, by simp only; omega⟩
/-- all of it. -/
theorem pieces_one (a G : Int) (k : Nat) (hk : 1 ≤ k) (hG : 3 ≤ G) (hb : ((k : Int) - 1) * G + 2 ≤ 52596000) :
    addR (addR (fill (pcs a k G k) G (k - 1)) (0, 2)) (((k : Int) - 1) * G, ((k : Int) - 1) * G + 2) = [(0, ((k : Int) - 1) * G + 2)] := by
  have h0 : 0 ≤ ((k : Int) - 1) * G := Int.mul_nonneg (by omega) (by omega)
  have hn1 := pcs_neat a k G k
  have hn2 := fill_neat _ G hn1 (k - 1)
  have hn3 := addR_neat _ (0, 2) hn2
  have hn4 := addR_neat _ (((k : Int) - 1) * G, ((k : Int) - 1) * G + 2) hn3.1
  have ok : Ok (0, ((k : Int) - 1) * G + 2) := by unfold Ok; simp only; omega
  have ec : ((k - 1 : Nat) : Int) = (k : Int) - 1 := by omega
  refine neat_ext _ _ hn4.1 ⟨ok, fun b hb' => absurd hb' (by simp), trivial⟩ fun m => ?_
  rw [hn4.2 m, hn3.2 m, fill_has _ G hn1 hG (k - 1) (by rw [ec]; omega) m, pcs_has a k G (by omega) hG hb k m, has_one, has_one, has_one, ec]
  constructor
  · rintro (((⟨j, ⟨q, hq, hj⟩, h⟩ | h) | ⟨_, h⟩) | ⟨_, h⟩)
    · have h1 := Int.emod_nonneg ((q : Int) * a) (by omega : (k : Int) ≠ 0)
      have h2 := Int.emod_lt_of_pos ((q : Int) * a) (by omega : 0 < (k : Int))
      rw [← hj] at h1 h2
      have h3 : j * G ≤ ((k : Int) - 1) * G := Int.mul_le_mul_of_nonneg_right (by omega) (by omega)
      have h4 : 0 ≤ j * G := Int.mul_nonneg h1 (by omega)
      exact ⟨ok, by simp only; omega, by simp only; omega⟩
    · exact ⟨ok, by simp only; omega, by simp only; omega⟩
    · simp only at h; exact ⟨ok, by simp only; omega, by simp only; omega⟩
    · simp only at h; exact ⟨ok, by simp only; omega, by simp only; omega⟩
  · rintro ⟨_, h1, h2⟩
    simp only at h1 h2
    by_cases ha : m < 2
    · exact Or.inl (Or.inr ⟨by unfold Ok; simp only; omega, by simp only; omega, by simp only; omega⟩)
    · by_cases hc : ((k : Int) - 1) * G ≤ m
      · exact Or.inr ⟨by unfold Ok; simp only; omega, by simp only; omega, by simp only; omega⟩
      · exact Or.inl (Or.inl (Or.inr ⟨by omega, by omega⟩))
end Spn

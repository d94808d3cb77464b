/- Plain facts of a calendar's lines: bytes of names, small letters made great, a line parted at its first colon; no word of a program. -/
import Derived.Test.YtojhajlhbhkddaaDoorFoMath
namespace Go.Proofs.YtojhajlhbhkddaaDoor.Li
open Go.Proofs.YtojhajlhbhkddaaDoor Rul Rt Fo

/-- a number that a byte of a name has. -/
def inI (x : Int) : Bool := (decide (65 ≤ x) && decide (x ≤ 90)) || (decide (48 ≤ x) && decide (x ≤ 57)) || (x == 45)
def inN (c : UInt8) : Bool := inI (c.toNat : Int)
/-- a small letter's great one. -/
def up (c : UInt8) : UInt8 := if 97 ≤ c.toNat ∧ c.toNat ≤ 122 then c - 32 else c
def capE (s : Tx) : Tx := s.map up
def nameE (s : Tx) : Bool := decide (1 ≤ s.length) && decide (s.length ≤ 20) && s.all inN
/-- a line's name and value. -/
def lineE (s : Tx) : Option (Tx × Tx) :=
  if 58 ∈ s then
    (if nameE (capE (s.takeWhile (· != 58))) then some (capE (s.takeWhile (· != 58)), s.drop ((s.takeWhile (· != 58)).length + 1)) else none)
  else none

theorem take_before (c : UInt8) : ∀ (p r : Tx), c ∉ p → (p ++ c :: r).takeWhile (· != c) = p
  | [], r, _ => by simp
  | x :: p, r, h => by
    have hx : x ≠ c := fun e => h (e ▸ List.mem_cons_self)
    have ih := take_before c p r fun g => h (List.mem_cons_of_mem _ g)
    rw [List.cons_append, List.takeWhile_cons, if_pos (by simpa using hx), ih]
theorem lineE_none (s : Tx) (h : 58 ∉ s) : lineE s = none := by unfold lineE; rw [if_neg h]
theorem lineE_at (p r : Tx) (h : 58 ∉ p) : lineE (p ++ 58 :: r) = if nameE (capE p) then some (capE p, r) else none := by
  unfold lineE
  rw [if_pos (by simp), take_before 58 p r h]
  have e : (p ++ 58 :: r).drop (p.length + 1) = r := by
    rw [← List.drop_drop, List.drop_left]
    rfl
  rw [e]
theorem lineE_some (s p r : Tx) (hs : s = p ++ 58 :: r) (h : 58 ∉ p) (hn : nameE (capE p) = true) : lineE s = some (capE p, r) := by
  rw [hs, lineE_at p r h, if_pos hn]
theorem lineE_bad (s p r : Tx) (hs : s = p ++ 58 :: r) (h : 58 ∉ p) (hn : nameE (capE p) = false) : lineE s = none := by
  rw [hs, lineE_at p r h, hn]; rfl

/-- where a byte stands first. -/
theorem index_byte (c : UInt8) : ∀ s : Tx, Lib.index s [c] = -1 ∧ c ∉ s ∨ ∃ i : Nat, Lib.index s [c] = (i : Int) ∧ i < s.length ∧ c ∉ s.take i ∧ s = s.take i ++ c :: s.drop (i + 1) := fun s => by
  rcases Lib.index_spec s [c] with ⟨h1, h2⟩ | ⟨i, h1, h2, h3, h4⟩
  · left
    refine ⟨h1, fun hm => ?_⟩
    obtain ⟨j, hj, e⟩ := List.mem_iff_getElem.1 hm
    have := h2 j (by omega)
    unfold Lib.occAt at this
    rw [List.drop_eq_getElem_cons hj, e] at this
    simp at this
  · right
    have hlt : i < s.length := by
      unfold Lib.occAt at h3
      rcases Nat.lt_or_ge i s.length with g | g
      · exact g
      · rw [List.drop_eq_nil_of_le g] at h3; simp at h3
    have hc : s[i] = c := by
      unfold Lib.occAt at h3
      rw [List.drop_eq_getElem_cons hlt] at h3
      simp [List.isPrefixOf] at h3
      exact h3.symm
    refine ⟨i, h1, hlt, fun hm => ?_, ?_⟩
    · obtain ⟨j, hj, e⟩ := List.mem_iff_getElem.1 hm
      rw [List.length_take] at hj
      rw [List.getElem_take] at e
      have := h4 j (by omega)
      unfold Lib.occAt at this
      rw [List.drop_eq_getElem_cons (by omega), e] at this
      simp at this
    · have : s.take i ++ s.drop i = s := List.take_append_drop i s
      rw [List.drop_eq_getElem_cons hlt, hc] at this
      exact this.symm

/-! ### bytes -/
theorem inI_iff (x : Int) : inI x = true ↔ (65 ≤ x ∧ x ≤ 90) ∨ (48 ≤ x ∧ x ≤ 57) ∨ x = 45 := by
  unfold inI
  simp only [Bool.or_eq_true, Bool.and_eq_true, decide_eq_true_eq, beq_iff_eq]
  omega
theorem inI_no (x : Int) (h : ¬ ((65 ≤ x ∧ x ≤ 90) ∨ (48 ≤ x ∧ x ≤ 57) ∨ x = 45)) : inI x = false := by
  rw [Bool.eq_false_iff]; intro g; exact h ((inI_iff x).1 g)
theorem sub32 (c : UInt8) (h1 : 97 ≤ c.toNat) : (c - 32).toNat = c.toNat - 32 := by
  have h3 : (32 : UInt8).toNat = 32 := rfl
  have hl := c.toNat_lt
  rw [UInt8.toNat_sub, h3]; omega
theorem add32 (c : UInt8) (h1 : c.toNat ≤ 90) : (c + 32).toNat = c.toNat + 32 := by
  have h3 : (32 : UInt8).toNat = 32 := rfl
  rw [UInt8.toNat_add, h3]; omega
theorem up_small (c : UInt8) (h1 : 97 ≤ c.toNat) (h2 : c.toNat ≤ 122) : up c = c - 32 := by unfold up; rw [if_pos ⟨h1, h2⟩]
theorem up_other (c : UInt8) (h : ¬ (97 ≤ c.toNat ∧ c.toNat ≤ 122)) : up c = c := by unfold up; rw [if_neg h]
theorem up_in (c : UInt8) (h : inN c = true) : up c = c := by
  rw [inN, inI_iff] at h
  exact up_other c (by omega)
theorem up_low (c : UInt8) (h1 : 65 ≤ c.toNat) (h2 : c.toNat ≤ 90) : up (c + 32) = c := by
  have e := add32 c h2
  rw [up_small _ (by omega) (by omega)]
  apply UInt8.toNat_inj.1
  rw [sub32 _ (by omega), e]; omega
theorem colon_not (c : UInt8) (h : inN (up c) = true) : c ≠ 58 := by
  rintro rfl
  exact absurd h (by decide)

theorem capE_len (s : Tx) : (capE s).length = s.length := by simp [capE]
theorem capE_step (s : Tx) (k : Nat) (h : k < s.length) (c : UInt8) (hc : s[k] = c) :
    (capE (s.take k) ++ s.drop k).set k (up c) = capE (s.take (k + 1)) ++ s.drop (k + 1) := by
  have e1 : (capE (s.take k)).length = k := by rw [capE_len, List.length_take]; omega
  rw [List.set_append_right _ _ (by omega), e1, Nat.sub_self, List.drop_eq_getElem_cons h, List.set_cons_zero, List.take_succ_eq_append_getElem h, hc]
  simp [capE]
theorem capE_stay (s : Tx) (k : Nat) (h : k < s.length) (c : UInt8) (hc : s[k] = c) (hu : up c = c) :
    capE (s.take k) ++ s.drop k = capE (s.take (k + 1)) ++ s.drop (k + 1) := by
  rw [List.drop_eq_getElem_cons h, List.take_succ_eq_append_getElem h, hc]
  simp [capE, hu]
theorem capE_at (s : Tx) (k : Nat) (h : k < s.length) (h2 : k < (capE (s.take k) ++ s.drop k).length) : (capE (s.take k) ++ s.drop k)[k] = s[k] := by
  have e1 : (capE (s.take k)).length = k := by rw [capE_len, List.length_take]; omega
  rw [List.getElem_append_right (by omega), List.getElem_drop]
  congr 1
  omega
theorem capE_all (s : Tx) : capE (s.take s.length) ++ s.drop s.length = capE s := by
  rw [List.take_of_length_le (Nat.le_refl _), List.drop_eq_nil_of_le (Nat.le_refl _), List.append_nil]

theorem nameE_iff (s : Tx) : nameE s = true ↔ 1 ≤ s.length ∧ s.length ≤ 20 ∧ s.all inN = true := by
  unfold nameE
  simp only [Bool.and_eq_true, decide_eq_true_eq]
  exact and_assoc
theorem nameE_short (s : Tx) (h : s.length < 1) : nameE s = false := by
  unfold nameE; rw [decide_eq_false (by omega : ¬ 1 ≤ s.length)]; rfl
theorem nameE_long (s : Tx) (h : 20 < s.length) : nameE s = false := by
  unfold nameE; rw [decide_eq_false (by omega : ¬ s.length ≤ 20), Bool.and_false, Bool.false_and]
theorem nameE_all (s : Tx) (h1 : 1 ≤ s.length) (h2 : s.length ≤ 20) : nameE s = s.all inN := by
  unfold nameE; rw [decide_eq_true h1, decide_eq_true h2]; rfl
theorem all_no (s : Tx) (k : Nat) (h : k < s.length) (hc : inN s[k] = false) : s.all inN = false := by
  rw [Bool.eq_false_iff, Ne, List.all_eq_true]
  intro g
  have := g s[k] (List.getElem_mem h)
  rw [hc] at this; cases this
theorem all_more (s : Tx) (k : Nat) (h : k < s.length) (hk : (s.take k).all inN = true) (hc : inN s[k] = true) : (s.take (k + 1)).all inN = true := by
  rw [List.take_succ_eq_append_getElem h, List.all_append, hk, List.all_cons, hc]; rfl

/-- a name, some of whose letters are small. -/
def Mix (name done : Tx) : Prop := done.length = name.length ∧ capE done = name
theorem mix_start (name : Tx) (h : nameE name = true) : Mix name name := by
  refine ⟨rfl, ?_⟩
  have ha := ((nameE_iff name).1 h).2.2
  unfold capE
  rw [List.all_eq_true] at ha
  conv => rhs; rw [← List.map_id name]
  exact List.map_congr_left fun c hc => up_in c (ha c hc)
theorem Mix.set {name done : Tx} (h : Mix name done) (k : Nat) (c : UInt8) (hk : k < done.length) (hc : done[k] = c) (h1 : 65 ≤ c.toNat) (h2 : c.toNat ≤ 90) : Mix name (done.set k (c + 32)) := by
  refine ⟨by rw [List.length_set]; exact h.1, ?_⟩
  have e : up c = c := up_other c (by omega)
  rw [← h.2, capE, List.map_set, up_low c h1 h2]
  have hk2 : k < (done.map up).length := by rw [List.length_map]; exact hk
  have : (done.map up)[k] = c := by rw [List.getElem_map, hc, e]
  rw [← this]
  exact List.set_getElem_self hk2
theorem Mix.line {name done : Tx} (h : Mix name done) (hn : nameE name = true) (value : Tx) : lineE (done ++ 58 :: value) = some (name, value) := by
  have h58 : 58 ∉ done := fun hm => by
    have ha := ((nameE_iff name).1 hn).2.2
    rw [List.all_eq_true] at ha
    have : up 58 ∈ name := by rw [← h.2]; exact List.mem_map_of_mem hm
    exact colon_not 58 (ha _ this) rfl
  have := lineE_some (done ++ 58 :: value) done value rfl h58 (by rw [h.2]; exact hn)
  rw [this, h.2]

/-! ### one byte and a colon -/
theorem line_one (c : UInt8) (r : Tx) : (lineE (c :: 58 :: r)).isSome = (inI (c.toNat : Int) || (decide (97 ≤ (c.toNat : Int)) && decide ((c.toNat : Int) ≤ 122))) := by
  by_cases h58 : c = 58
  · subst h58
    have : lineE (58 :: 58 :: r) = if nameE (capE []) then some (capE [], 58 :: r) else none := lineE_at [] (58 :: r) (by simp)
    rw [this]; rfl
  · have : lineE (c :: 58 :: r) = if nameE (capE [c]) then some (capE [c], r) else none := lineE_at [c] r (by simp; exact fun e => h58 e.symm)
    rw [this]
    have e : nameE (capE [c]) = inN (up c) := by
      rw [nameE_all _ (by simp [capE]) (by simp [capE])]; simp [capE]
    rw [e]
    by_cases hs : 97 ≤ c.toNat ∧ c.toNat ≤ 122
    · have h1 : inN (up c) = true := by
        rw [up_small c hs.1 hs.2, inN, inI_iff, sub32 c hs.1]; omega
      have h2 : (decide (97 ≤ (c.toNat : Int)) && decide ((c.toNat : Int) ≤ 122)) = true := by
        rw [decide_eq_true (by omega), decide_eq_true (by omega)]; rfl
      rw [h1, h2, Bool.or_true]; rfl
    · have h1 : up c = c := up_other c hs
      have h2 : (decide (97 ≤ (c.toNat : Int)) && decide ((c.toNat : Int) ≤ 122)) = false := by
        rw [Bool.and_eq_false_iff]
        by_cases g : 97 ≤ (c.toNat : Int)
        · exact .inr (decide_eq_false (by omega))
        · exact .inl (decide_eq_false g)
      rw [h1, h2, Bool.or_false, inN]
      cases inI (c.toNat : Int) <;> rfl

/-! ### a long line -/
def summary : Tx := [83, 85, 77, 77, 65, 82, 89]
theorem line_summary (v : Tx) : lineE (summary ++ 58 :: v) = some (summary, v) := by
  have := lineE_some (summary ++ 58 :: v) summary v rfl (by decide) (by decide)
  rw [this]
  congr 1
theorem unfold_line (v : Tx) (h : (13 : UInt8) ∉ v) : unfoldE (foldE (summary ++ 58 :: v)) = [summary ++ 58 :: v] := by
  refine unfold_fold _ (by simp [summary]) (by simp [summary]) ?_
  intro hm
  rcases List.mem_append.1 hm with g | g
  · exact absurd g (by decide)
  · rcases List.mem_cons.1 g with e | g
    · exact absurd e (by decide)
    · exact h g
end Go.Proofs.YtojhajlhbhkddaaDoor.Li

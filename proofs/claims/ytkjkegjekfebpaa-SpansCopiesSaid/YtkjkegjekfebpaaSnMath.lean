/- Plain facts on balanced trees of spans, and on neat rows: no program is named here. -/
import Derived.Test.YtkjkegjekfebpaaSpMathB
namespace Spn

inductive Tr where
  | nil : Tr
  | node (l : Tr) (a : Sp) (r : Tr) : Tr
namespace Tr
def deep : Tr → Nat
  | .nil => 0
  | .node l _ r => 1 + max l.deep r.deep
def row : Tr → List Sp
  | .nil => []
  | .node l a r => l.row ++ a :: r.row
def Bal : Tr → Prop
  | .nil => True
  | .node l _ r => l.deep ≤ r.deep + 1 ∧ r.deep ≤ l.deep + 1 ∧ l.Bal ∧ r.Bal
theorem deep_le : ∀ t : Tr, t.deep ≤ t.row.length
  | .nil => Nat.le_refl _
  | .node l a r => by
    have h1 := deep_le l
    have h2 := deep_le r
    simp only [deep, row, List.length_append, List.length_cons]
    omega
theorem deep_pos : ∀ t : Tr, t.row ≠ [] → 1 ≤ t.deep
  | .nil, h => absurd rfl h
  | .node l a r, _ => by simp only [deep]; omega
theorem deep_nil : ∀ t : Tr, t.row = [] → t = .nil
  | .nil, _ => rfl
  | .node l a r, h => by simp [row] at h
/-- a balanced tree so deep has so many spans. -/
theorem many : ∀ (n : Nat) (t : Tr), t.deep ≤ n → t.Bal → 1 ≤ t.deep → 2 ^ ((t.deep - 1) / 2) ≤ t.row.length
  | _, .nil, _, _, h => by simp [deep] at h
  | 0, .node l a r, h, _, _ => by simp only [deep] at h; omega
  | n + 1, .node l a r, hn, hb, _ => by
    obtain ⟨b1, b2, b3, b4⟩ := hb
    have e1 := many n l
    have e2 := many n r
    simp only [deep] at hn ⊢
    simp only [row, List.length_append, List.length_cons]
    by_cases h0 : max l.deep r.deep ≤ 1
    · have : (1 + max l.deep r.deep - 1) / 2 = 0 := by omega
      rw [this]; simp; omega
    · have f1 := e1 (by omega) b3 (by omega)
      have f2 := e2 (by omega) b4 (by omega)
      obtain ⟨k, hk⟩ : ∃ k, (1 + max l.deep r.deep - 1) / 2 = k + 1 := ⟨(1 + max l.deep r.deep - 1) / 2 - 1, by omega⟩
      rw [hk]
      have g1 : 2 ^ k ≤ 2 ^ ((l.deep - 1) / 2) := Nat.pow_le_pow_right (by omega) (by omega)
      have g2 : 2 ^ k ≤ 2 ^ ((r.deep - 1) / 2) := Nat.pow_le_pow_right (by omega) (by omega)
      rw [Nat.pow_succ]
      omega
theorem flat (t : Tr) (hb : t.Bal) (k : Nat) (hk : t.row.length < 2 ^ (k + 1)) : t.deep ≤ 2 * k + 2 := by
  by_cases h : 1 ≤ t.deep
  · have h1 := many t.deep t (Nat.le_refl _) hb h
    have h2 : (t.deep - 1) / 2 < k + 1 := (Nat.pow_lt_pow_iff_right (by omega : 1 < 2)).1 (Nat.lt_of_le_of_lt h1 hk)
    omega
  · omega
end Tr

/-- of one span: a row that touches nothing of it goes with it. -/
theorem not_tch_of (b a : Sp) (h : b.2 < a.1 ∨ a.2 < b.1) : touchB b a = false := by
  exact decide_eq_false fun hc => by have h1 := hc.2.2.1; have h2 := hc.2.2.2; omega
theorem tch_of (b a : Sp) (hb : Ok b) (ha : Ok a) (h1 : ¬ b.2 < a.1) (h2 : ¬ a.2 < b.1) : touchB b a = true := by
  exact decide_eq_true (p := Tch b a) ⟨hb, ha, by omega, by omega⟩

/-- what ends before m, what begins behind m, what touches a. -/
def bef (l : List Sp) (m : Int) : List Sp := l.filter fun b => decide (b.2 < m)
def aft (l : List Sp) (m : Int) : List Sp := l.filter fun b => decide (m < b.1)
def tch (l : List Sp) (a : Sp) : List Sp := l.filter fun b => touchB b a

theorem neat_mid (l r : List Sp) (a : Sp) (h : Neat (l ++ a :: r)) : Ok a ∧ (∀ b, b ∈ l → b.2 < a.1) ∧ (∀ b, b ∈ r → a.2 < b.1) ∧ Neat l ∧ Neat r := by
  have h1 := neat_left _ _ h
  have h2 := neat_right _ _ h
  exact ⟨h2.1, fun b hb => neat_apart _ _ h b hb a List.mem_cons_self, h2.2.1, h1, h2.2.2⟩
theorem neat_oks (l : List Sp) (h : Neat l) : ∀ b, b ∈ l → 0 ≤ b.1 ∧ b.1 < b.2 ∧ b.2 ≤ 52596000 := fun b hb => neat_ok l h b hb
theorem filter_all {α : Type} (p : α → Bool) (l : List α) (h : ∀ b, b ∈ l → p b = true) : l.filter p = l := List.filter_eq_self.2 h
theorem filter_none {α : Type} (p : α → Bool) (l : List α) (h : ∀ b, b ∈ l → p b = false) : l.filter p = [] := List.filter_eq_nil_iff.2 fun b hb => by rw [h b hb]; simp
theorem bef_yes (l r : List Sp) (a : Sp) (m : Int) (h : Neat (l ++ a :: r)) (hm : a.2 < m) : bef (l ++ a :: r) m = l ++ a :: bef r m := by
  obtain ⟨h1, h2, h3, h4, h5⟩ := neat_mid _ _ _ h
  unfold Ok at h1
  unfold bef
  rw [List.filter_append, filter_all _ l fun b hb => decide_eq_true (by have := h2 b hb; omega), List.filter_cons_of_pos (by simpa using hm)]
theorem bef_no (l r : List Sp) (a : Sp) (m : Int) (h : Neat (l ++ a :: r)) (hm : ¬ a.2 < m) : bef (l ++ a :: r) m = bef l m := by
  obtain ⟨h1, h2, h3, h4, h5⟩ := neat_mid _ _ _ h
  unfold bef
  rw [List.filter_append, List.filter_cons_of_neg (by simpa using hm), filter_none _ r fun b hb => decide_eq_false (by have := h3 b hb; have := neat_oks r h5 b hb; omega), List.append_nil]
theorem aft_yes (l r : List Sp) (a : Sp) (m : Int) (h : Neat (l ++ a :: r)) (hm : m < a.1) : aft (l ++ a :: r) m = aft l m ++ a :: r := by
  obtain ⟨h1, h2, h3, h4, h5⟩ := neat_mid _ _ _ h
  unfold Ok at h1
  unfold aft
  rw [List.filter_append, List.filter_cons_of_pos (by simpa using hm), filter_all _ r fun b hb => decide_eq_true (by have := h3 b hb; omega)]
theorem aft_no (l r : List Sp) (a : Sp) (m : Int) (h : Neat (l ++ a :: r)) (hm : ¬ m < a.1) : aft (l ++ a :: r) m = aft r m := by
  obtain ⟨h1, h2, h3, h4, h5⟩ := neat_mid _ _ _ h
  unfold aft
  rw [List.filter_append, List.filter_cons_of_neg (by simpa using hm), filter_none _ l fun b hb => decide_eq_false (by have := h2 b hb; have := neat_oks l h4 b hb; omega), List.nil_append]
theorem tch_split (l r : List Sp) (n a : Sp) : tch (l ++ n :: r) a = tch l a ++ ((if touchB n a = true then [n] else []) ++ tch r a) := by
  unfold tch
  rw [List.filter_append]
  by_cases h : touchB n a = true
  · rw [if_pos h, List.filter_cons, if_pos h]; rfl
  · rw [if_neg h, List.filter_cons, if_neg h]; rfl
theorem tch_left (l r : List Sp) (n a : Sp) (h : Neat (l ++ n :: r)) (hm : ¬ a.1 < n.1) : tch l a = [] := by
  obtain ⟨h1, h2, h3, h4, h5⟩ := neat_mid _ _ _ h
  exact filter_none _ _ fun b hb => not_tch_of _ _ (Or.inl (by have := h2 b hb; omega))
theorem tch_right (l r : List Sp) (n a : Sp) (h : Neat (l ++ n :: r)) (hm : ¬ n.2 < a.2) : tch r a = [] := by
  obtain ⟨h1, h2, h3, h4, h5⟩ := neat_mid _ _ _ h
  exact filter_none _ _ fun b hb => not_tch_of _ _ (Or.inr (by have := h3 b hb; omega))
theorem bef_len (l : List Sp) (m : Int) : (bef l m).length ≤ l.length := List.length_filter_le _ _
theorem aft_len (l : List Sp) (m : Int) : (aft l m).length ≤ l.length := List.length_filter_le _ _
theorem tch_len (l : List Sp) (a : Sp) : (tch l a).length ≤ l.length := List.length_filter_le _ _
theorem neat_filter (p : Sp → Bool) : ∀ l : List Sp, Neat l → Neat (l.filter p)
  | [], _ => trivial
  | a :: r, h => by
    by_cases hp : p a = true
    · rw [List.filter_cons_of_pos hp]
      exact ⟨h.1, fun b hb => h.2.1 b (List.mem_filter.1 hb).1, neat_filter p r h.2.2⟩
    · rw [List.filter_cons_of_neg hp]; exact neat_filter p r h.2.2
theorem tch_whole (l : List Sp) (h : Neat l) : tch l (0, 52596000) = l :=
  filter_all _ _ fun b hb => by
    have := neat_oks l h b hb
    exact tch_of _ _ (neat_ok l h b hb) (by unfold Ok; simp) (by simp only; omega) (by simp only; omega)
theorem has_parts (l : List Sp) (a : Sp) (_ : Neat l) (ha : Ok a) (m : Int) : Has l m ↔ Has (bef l a.1) m ∨ Has (tch l a) m ∨ Has (aft l a.2) m := by
  unfold Has bef tch aft
  constructor
  · rintro ⟨b, hb, ok, h⟩
    by_cases h1 : b.2 < a.1
    · exact Or.inl ⟨b, List.mem_filter.2 ⟨hb, decide_eq_true h1⟩, ok, h⟩
    · by_cases h2 : a.2 < b.1
      · exact Or.inr (Or.inr ⟨b, List.mem_filter.2 ⟨hb, decide_eq_true h2⟩, ok, h⟩)
      · exact Or.inr (Or.inl ⟨b, List.mem_filter.2 ⟨hb, tch_of _ _ ok ha h1 h2⟩, ok, h⟩)
  · rintro (⟨b, hb, h⟩ | ⟨b, hb, h⟩ | ⟨b, hb, h⟩) <;> exact ⟨b, (List.mem_filter.1 hb).1, h⟩
theorem neat_uniq (l : List Sp) : Neat l → ∀ b, b ∈ l → ∀ c, c ∈ l → b = c ∨ b.2 < c.1 ∨ c.2 < b.1 := by
  induction l with
  | nil => intro _ b hb; cases hb
  | cons x r ih =>
    intro hn b hb c hc
    rcases List.mem_cons.1 hb with rfl | hb
    · rcases List.mem_cons.1 hc with rfl | hc
      · exact Or.inl rfl
      · exact Or.inr (Or.inl (hn.2.1 c hc))
    · rcases List.mem_cons.1 hc with hc | hc
      · exact Or.inr (Or.inr (by rw [hc]; exact hn.2.1 b hb))
      · exact ih hn.2.2 b hb c hc
/-- the row behind a change in the place of a: what was put there lies in what touched a, or in a. -/
theorem repl_neat (l o : List Sp) (a : Sp) (hn : Neat l) (ha : Ok a) (ho : Neat o) (hin : ∀ m, Has o m → Has (tch l a) m ∨ Has [a] m) :
    Neat (bef l a.1 ++ o ++ aft l a.2) ∧ (∀ b, b ∈ bef l a.1 → ∀ c, c ∈ o → b.2 < c.1) ∧ (∀ c, c ∈ o → ∀ b, b ∈ aft l a.2 → c.2 < b.1) := by
  have okA := ha
  unfold Ok at okA
  have g1 : ∀ b, b ∈ bef l a.1 → ∀ c, c ∈ o → b.2 < c.1 := by
    intro b hb c hc
    obtain ⟨hbl, hba⟩ := List.mem_filter.1 hb
    have hba := of_decide_eq_true hba
    have okb := neat_oks l hn b hbl
    have okc := neat_oks o ho c hc
    rcases hin c.1 ⟨c, hc, neat_ok o ho c hc, by omega, by omega⟩ with ⟨t, ht, okt, h1, h2⟩ | h
    · obtain ⟨htl, htt⟩ := List.mem_filter.1 ht
      have htt := (of_decide_eq_true htt).2.2
      rcases neat_uniq l hn b hbl t htl with rfl | h | h
      · omega
      · omega
      · omega
    · have := (has_one a c.1).1 h; omega
  have g2 : ∀ c, c ∈ o → ∀ b, b ∈ aft l a.2 → c.2 < b.1 := by
    intro c hc b hb
    obtain ⟨hbl, hba⟩ := List.mem_filter.1 hb
    have hba := of_decide_eq_true hba
    have okb := neat_oks l hn b hbl
    have okc := neat_oks o ho c hc
    rcases hin (c.2 - 1) ⟨c, hc, neat_ok o ho c hc, by omega, by omega⟩ with ⟨t, ht, okt, h1, h2⟩ | h
    · obtain ⟨htl, htt⟩ := List.mem_filter.1 ht
      have htt := (of_decide_eq_true htt).2.2
      rcases neat_uniq l hn b hbl t htl with rfl | h | h
      · omega
      · omega
      · omega
    · have := (has_one a (c.2 - 1)).1 h; omega
  have g3 : ∀ b, b ∈ bef l a.1 → ∀ c, c ∈ aft l a.2 → b.2 < c.1 := by
    intro b hb c hc
    have h1 := of_decide_eq_true (List.mem_filter.1 hb).2
    have h2 := of_decide_eq_true (List.mem_filter.1 hc).2
    omega
  refine ⟨neat_append _ _ (neat_append _ _ (neat_filter _ l hn) ho g1) (neat_filter _ l hn) ?_, g1, g2⟩
  intro b hb c hc
  rcases List.mem_append.1 hb with hb | hb
  · exact g3 b hb c hc
  · exact g2 b hb c hc
theorem repl_has (l o : List Sp) (a : Sp) (m : Int) : Has (bef l a.1 ++ o ++ aft l a.2) m ↔ Has (bef l a.1) m ∨ Has o m ∨ Has (aft l a.2) m := by
  rw [has_append, has_append, or_assoc]
theorem bef_out (l : List Sp) (a : Sp) (m : Int) (h : Has (bef l a.1) m) : ¬ (Ok a ∧ a.1 ≤ m ∧ m < a.2) := by
  obtain ⟨b, hb, _, h1, h2⟩ := h
  have := of_decide_eq_true (List.mem_filter.1 hb).2
  omega
theorem aft_out (l : List Sp) (a : Sp) (m : Int) (h : Has (aft l a.2) m) : ¬ (Ok a ∧ a.1 ≤ m ∧ m < a.2) := by
  obtain ⟨b, hb, _, h1, h2⟩ := h
  have := of_decide_eq_true (List.mem_filter.1 hb).2
  omega

/-- Add. -/
theorem add_row (l : List Sp) (a : Sp) (hn : Neat l) (ha : Ok a) : bef l a.1 ++ canon (tch l a ++ [a]) ++ aft l a.2 = addR l a := by
  have hc := canon_neat (tch l a ++ [a])
  have hr := addR_neat l a hn
  refine neat_ext _ _ (repl_neat l _ a hn ha hc.1 fun m h => ?_).1 hr.1 fun m => ?_
  · rw [← has_append]; exact (hc.2 m).1 h
  · rw [repl_has, hr.2 m, hc.2 m, has_append, has_parts l a hn ha m]
    constructor
    · rintro (h | (h | h) | h)
      · exact Or.inl (Or.inl h)
      · exact Or.inl (Or.inr (Or.inl h))
      · exact Or.inr h
      · exact Or.inl (Or.inr (Or.inr h))
    · rintro ((h | h | h) | h)
      · exact Or.inl h
      · exact Or.inr (Or.inl (Or.inl h))
      · exact Or.inr (Or.inr h)
      · exact Or.inr (Or.inl (Or.inr h))
theorem addR_no (l : List Sp) (a : Sp) (h : ¬ Ok a) : addR l a = l := by unfold addR; rw [if_neg h]

/-- Cut: the reference's Sub. -/
def subR (l : List Sp) (a : Sp) : List Sp := l.flatMap fun b => minus b a
theorem subR_take (l : List Sp) (a : Sp) (k : Nat) (h : k < l.length) : subR (l.take (k + 1)) a = subR (l.take k) a ++ minus l[k] a := by
  unfold subR; rw [List.take_succ_eq_append_getElem h, List.flatMap_append]; simp
theorem has_flat (l : List Sp) (a : Sp) (m : Int) : Has (subR l a) m ↔ Has l m ∧ ¬ (Ok a ∧ a.1 ≤ m ∧ m < a.2) := by
  induction l with
  | nil => exact ⟨fun h => absurd h (has_nil m), fun h => absurd h.1 (has_nil m)⟩
  | cons b r ih =>
    have e : subR (b :: r) a = minus b a ++ subR r a := rfl
    rw [e, has_append, ih, has_cons, (neat_minus b a).2 m, in_ok]
    have h2 : inB a m = false ↔ ¬ (Ok a ∧ a.1 ≤ m ∧ m < a.2) := by rw [← in_ok]; simp
    rw [h2]
    constructor
    · rintro (h | h)
      · exact ⟨Or.inl h.1, h.2⟩
      · exact ⟨Or.inr h.1, h.2⟩
    · rintro ⟨h | h, h'⟩
      · exact Or.inl ⟨h, h'⟩
      · exact Or.inr ⟨h, h'⟩
theorem minus_in (b a c : Sp) (h : c ∈ minus b a) : b.1 ≤ c.1 ∧ c.2 ≤ b.2 ∧ Ok c := by
  have hn := neat_minus b a
  have ok := neat_ok _ hn.1 c h
  have okc := ok
  unfold Ok at okc
  have h1 := ((hn.2 c.1).1 ⟨c, h, ok, by omega, by omega⟩).1
  have h2 := ((hn.2 (c.2 - 1)).1 ⟨c, h, ok, by omega, by omega⟩).1
  rw [in_ok] at h1 h2
  exact ⟨h1.2.1, by omega, ok⟩
theorem subR_neat : ∀ (l : List Sp) (a : Sp), Neat l → Neat (subR l a)
  | [], _, _ => trivial
  | b :: r, a, h => by
    refine neat_append (minus b a) (subR r a) (neat_minus b a).1 (subR_neat r a h.2.2) fun c hc d hd => ?_
    obtain ⟨x, hx, hd⟩ := List.mem_flatMap.1 hd
    have h1 := minus_in b a c hc
    have h2 := minus_in x a d hd
    have h3 := h.2.1 x hx
    omega
theorem minus_apart (b a : Sp) (hb : Ok b) (h : a.2 ≤ b.1 ∨ b.2 ≤ a.1) : minus b a = [b] := by
  refine neat_ext _ _ (neat_minus b a).1 ⟨hb, fun _ h => absurd h (by simp), trivial⟩ fun m => ?_
  rw [(neat_minus b a).2 m, has_one, in_ok]
  have h2 : inB a m = false ↔ ¬ (Ok a ∧ a.1 ≤ m ∧ m < a.2) := by rw [← in_ok]; simp
  rw [h2]
  constructor
  · exact fun h => h.1
  · intro h'; exact ⟨h', by omega⟩
theorem subR_apart : ∀ (l : List Sp) (a : Sp), Neat l → (∀ b, b ∈ l → a.2 ≤ b.1 ∨ b.2 ≤ a.1) → subR l a = l
  | [], _, _, _ => rfl
  | b :: r, a, h, k => by
    have e : subR (b :: r) a = minus b a ++ subR r a := rfl
    rw [e, minus_apart b a h.1 (k b List.mem_cons_self), subR_apart r a h.2.2 fun c hc => k c (List.mem_cons_of_mem _ hc)]; rfl
theorem subR_len : ∀ (l : List Sp) (a : Sp), Neat l → (subR l a).length ≤ l.length + 1
  | [], _, _ => by simp [subR]
  | b :: r, a, h => by
    have e : subR (b :: r) a = minus b a ++ subR r a := rfl
    have ih := subR_len r a h.2.2
    have h2 := minus_len b a
    rw [e, List.length_append, List.length_cons]
    by_cases hc : (minus b a).length ≤ 1
    · omega
    · have hlt : a.2 ≤ b.2 := by
        apply Int.not_lt.1
        intro hlt
        apply hc
        unfold minus
        split
        · rw [valid_two]
          have : ¬ Ok (a.2, b.2) := by unfold Ok; simp only; omega
          rw [if_neg this]; split <;> simp
        · rw [valid_one]; split <;> simp
      rw [subR_apart r a h.2.2 fun c hc => Or.inl (by have := h.2.1 c hc; omega)]
      omega
theorem sub_row (l : List Sp) (a : Sp) (hn : Neat l) (ha : Ok a) : bef l a.1 ++ subR (tch l a) a ++ aft l a.2 = subR l a := by
  have hs := subR_neat (tch l a) a (neat_filter _ l hn)
  refine neat_ext _ _ (repl_neat l _ a hn ha hs fun m h => Or.inl ((has_flat _ _ m).1 h).1).1 (subR_neat l a hn) fun m => ?_
  rw [repl_has, has_flat, has_flat, has_parts l a hn ha m]
  constructor
  · rintro (h | h | h)
    · exact ⟨Or.inl h, bef_out l a m h⟩
    · exact ⟨Or.inr (Or.inl h.1), h.2⟩
    · exact ⟨Or.inr (Or.inr h), aft_out l a m h⟩
  · rintro ⟨h | h | h, h'⟩
    · exact Or.inl h
    · exact Or.inr (Or.inl ⟨h, h'⟩)
    · exact Or.inr (Or.inr h)
theorem subR_no (l : List Sp) (a : Sp) (hn : Neat l) (h : ¬ Ok a) : subR l a = l :=
  neat_ext _ _ (subR_neat l a hn) hn fun m => by
    rw [has_flat]; exact ⟨fun h => h.1, fun k => ⟨k, fun h' => h h'.1⟩⟩

/-- Part. -/
def partR (l : List Sp) (a : Sp) : List Sp := valid (l.map fun b => meet b a)
theorem partR_take (l : List Sp) (a : Sp) (k : Nat) (h : k < l.length) : partR (l.take (k + 1)) a = partR (l.take k) a ++ if Ok (meet l[k] a) then [meet l[k] a] else [] := by
  unfold partR
  rw [List.take_succ_eq_append_getElem h, List.map_append]
  unfold valid
  rw [List.filter_append]
  congr 1
  exact valid_one (meet l[k] a)
theorem has_meet (b a : Sp) (m : Int) : (Ok (meet b a) ∧ (meet b a).1 ≤ m ∧ m < (meet b a).2) ↔ (Ok b ∧ b.1 ≤ m ∧ m < b.2) ∧ (Ok a ∧ a.1 ≤ m ∧ m < a.2) := by
  rw [← in_ok, ← in_ok, ← in_ok, in_meet, Bool.and_eq_true]
theorem has_part (l : List Sp) (a : Sp) (m : Int) : Has (partR l a) m ↔ Has l m ∧ (Ok a ∧ a.1 ≤ m ∧ m < a.2) := by
  unfold partR
  rw [has_valid]
  induction l with
  | nil => exact ⟨fun h => absurd h (has_nil m), fun h => absurd h.1 (has_nil m)⟩
  | cons b r ih =>
    rw [List.map_cons, has_cons, ih, has_cons, has_meet]
    constructor
    · rintro (h | h)
      · exact ⟨Or.inl h.1, h.2⟩
      · exact ⟨Or.inr h.1, h.2⟩
    · rintro ⟨h | h, h'⟩
      · exact Or.inl ⟨h, h'⟩
      · exact Or.inr ⟨h, h'⟩
theorem meet_in (b a : Sp) (h : Ok (meet b a)) : b.1 ≤ (meet b a).1 ∧ (meet b a).2 ≤ b.2 := by
  rcases meet_cases b a with ⟨_, _, _, h4⟩ | ⟨_, h2⟩
  · rw [h4]; simp only; omega
  · rw [h2] at h; exact absurd h not_ok0
theorem partR_cons (b : Sp) (r : List Sp) (a : Sp) : partR (b :: r) a = (if Ok (meet b a) then [meet b a] else []) ++ partR r a := by
  unfold partR
  rw [List.map_cons, ← List.singleton_append]
  unfold valid
  rw [List.filter_append]
  congr 1
  exact valid_one (meet b a)
theorem partR_mem (l : List Sp) (a c : Sp) (h : c ∈ partR l a) : ∃ b, b ∈ l ∧ c = meet b a ∧ Ok c := by
  obtain ⟨h1, h2⟩ := List.mem_filter.1 h
  obtain ⟨b, hb, rfl⟩ := List.mem_map.1 h1
  exact ⟨b, hb, rfl, (okB_iff _).1 h2⟩
theorem partR_neat : ∀ (l : List Sp) (a : Sp), Neat l → Neat (partR l a)
  | [], _, _ => trivial
  | b :: r, a, h => by
    rw [partR_cons]
    by_cases hc : Ok (meet b a)
    · rw [if_pos hc]
      refine ⟨hc, fun c hc' => ?_, partR_neat r a h.2.2⟩
      obtain ⟨x, hx, rfl, hok⟩ := partR_mem r a c hc'
      have h1 := meet_in b a hc
      have h2 := meet_in x a hok
      have h3 := h.2.1 x hx
      omega
    · rw [if_neg hc]; exact partR_neat r a h.2.2
theorem partR_len (l : List Sp) (a : Sp) : (partR l a).length ≤ l.length := by
  unfold partR; exact Nat.le_trans (valid_len' _) (by simp)
 where valid_len' (l : List Sp) : (valid l).length ≤ l.length := List.length_filter_le _ _
theorem part_row (l : List Sp) (a : Sp) (hn : Neat l) : partR (tch l a) a = partR l a :=
  neat_ext _ _ (partR_neat _ a (neat_filter _ l hn)) (partR_neat l a hn) fun m => by
    rw [has_part, has_part]
    constructor
    · rintro ⟨h, h'⟩
      exact ⟨(has_parts l a hn h'.1 m).2 (Or.inr (Or.inl h)), h'⟩
    · rintro ⟨h, h'⟩
      rcases (has_parts l a hn h'.1 m).1 h with h | h | h
      · exact absurd h' (bef_out l a m h)
      · exact ⟨h, h'⟩
      · exact absurd h' (aft_out l a m h)
theorem partR_comm (l : List Sp) (a : Sp) : valid (l.map fun b => meet a b) = partR l a := by
  unfold partR; congr 1; exact List.map_congr_left fun b _ => meet_comm a b

/-- Lack. -/
def lackR (l : List Sp) (a : Sp) : List Sp := l.foldl subR (if Ok a then [a] else [])
theorem lackR_take (l : List Sp) (a : Sp) (k : Nat) (h : k < l.length) : lackR (l.take (k + 1)) a = subR (lackR (l.take k) a) l[k] := by
  unfold lackR; rw [List.take_succ_eq_append_getElem h, List.foldl_append]; rfl
theorem lack_neat (l : List Sp) (a : Sp) : Neat (lackR l a) ∧ ∀ m, Has (lackR l a) m ↔ (Ok a ∧ a.1 ≤ m ∧ m < a.2) ∧ ¬ Has l m := by
  induction l using snoc_ind with
  | h0 =>
    unfold lackR
    rw [List.foldl_nil]
    by_cases h : Ok a
    · rw [if_pos h]
      refine ⟨⟨h, fun b hb => absurd hb (by simp), trivial⟩, fun m => ?_⟩
      rw [has_one]
      exact ⟨fun h => ⟨h, has_nil m⟩, fun h => h.1⟩
    · rw [if_neg h]
      refine ⟨trivial, fun m => ?_⟩
      exact ⟨fun h => absurd h (has_nil m), fun h' => absurd h'.1.1 h⟩
  | h1 l b ih =>
    have e : lackR (l ++ [b]) a = subR (lackR l a) b := by unfold lackR; rw [List.foldl_append]; rfl
    rw [e]
    refine ⟨subR_neat _ b ih.1, fun m => ?_⟩
    rw [has_flat, ih.2 m, has_append, has_one]
    constructor
    · rintro ⟨⟨h1, h2⟩, h3⟩; exact ⟨h1, fun h => h.elim h2 h3⟩
    · rintro ⟨h1, h2⟩; exact ⟨⟨h1, fun h => h2 (Or.inl h)⟩, fun h => h2 (Or.inr h)⟩
theorem lackR_len (l : List Sp) (a : Sp) : (lackR l a).length ≤ l.length + 1 := by
  induction l using snoc_ind with
  | h0 => unfold lackR; rw [List.foldl_nil]; split <;> simp
  | h1 l b ih =>
    have e : lackR (l ++ [b]) a = subR (lackR l a) b := by unfold lackR; rw [List.foldl_append]; rfl
    have := subR_len (lackR l a) b (lack_neat l a).1
    rw [e, List.length_append, List.length_singleton]; omega
/-- the code's way: from gap to gap. -/
def gaps : List Sp → Int → List Sp × Int
  | [], f => ([], f)
  | b :: r, f => (valid [(f, b.1)] ++ (gaps r b.2).1, (gaps r b.2).2)
def lackC (l : List Sp) (a : Sp) : List Sp := (gaps l a.1).1 ++ valid [((gaps l a.1).2, a.2)]
theorem gaps_snoc : ∀ (l : List Sp) (b : Sp) (f : Int), gaps (l ++ [b]) f = ((gaps l f).1 ++ valid [((gaps l f).2, b.1)], b.2)
  | [], b, f => by simp [gaps]
  | c :: r, b, f => by rw [List.cons_append, gaps, gaps_snoc r b c.2, gaps]; simp
theorem gaps_take (l : List Sp) (f : Int) (k : Nat) (h : k < l.length) : gaps (l.take (k + 1)) f = ((gaps (l.take k) f).1 ++ valid [((gaps (l.take k) f).2, l[k].1)], l[k].2) := by
  rw [List.take_succ_eq_append_getElem h, gaps_snoc]
theorem gaps_len : ∀ (l : List Sp) (f : Int), (gaps l f).1.length ≤ l.length
  | [], f => Nat.le_refl _
  | b :: r, f => by
    have := gaps_len r b.2
    have h2 : (valid [(f, b.1)]).length ≤ 1 := List.length_filter_le _ _
    rw [gaps, List.length_append, List.length_cons]; omega
/-- behind a row that touches a, all of it. -/
theorem gaps_has : ∀ (l : List Sp) (f t : Int), Neat l → 0 ≤ f → t ≤ 52596000 → (∀ b, b ∈ l → b.1 ≤ t) → (∀ b, b ∈ l → f ≤ b.2) →
    Neat ((gaps l f).1 ++ valid [((gaps l f).2, t)]) ∧ (∀ c, c ∈ (gaps l f).1 ++ valid [((gaps l f).2, t)] → f ≤ c.1) ∧ ∀ m, Has ((gaps l f).1 ++ valid [((gaps l f).2, t)]) m ↔ (f ≤ m ∧ m < t) ∧ ¬ Has l m
  | [], f, t, _, h0, h1, _, _ => by
    simp only [gaps, List.nil_append]
    rw [valid_one]
    by_cases h : Ok (f, t)
    · rw [if_pos h]
      refine ⟨⟨h, fun b hb => absurd hb (by simp), trivial⟩, fun c hc => ?_, fun m => ?_⟩
      · rw [List.mem_singleton.1 hc]; exact Int.le_refl _
      · rw [has_one]; exact ⟨fun k => ⟨k.2, has_nil m⟩, fun k => ⟨h, k.1⟩⟩
    · rw [if_neg h]
      refine ⟨trivial, fun c hc => absurd hc (by simp), fun m => ?_⟩
      refine ⟨fun k => absurd k (has_nil m), fun k => ?_⟩
      exfalso; apply h; unfold Ok; simp only; omega
  | b :: r, f, t, hn, h0, h1, h2, h3 => by
    have okb := hn.1
    unfold Ok at okb
    have hb1 := h2 b List.mem_cons_self
    have hb2 := h3 b List.mem_cons_self
    have ih := gaps_has r b.2 t hn.2.2 (by omega) h1 (fun c hc => h2 c (List.mem_cons_of_mem _ hc)) (fun c hc => by
      have := hn.2.1 c hc
      have := neat_oks r hn.2.2 c hc
      omega)
    simp only [gaps]
    rw [List.append_assoc]
    generalize (gaps r b.2).1 ++ valid [((gaps r b.2).2, t)] = G at ih
    obtain ⟨i1, i2, i3⟩ := ih
    rw [valid_one]
    by_cases h : Ok (f, b.1)
    · rw [if_pos h]
      refine ⟨⟨h, fun c hc => ?_, i1⟩, fun c hc => ?_, fun m => ?_⟩
      · have := i2 c hc; simp only; omega
      · rcases List.mem_cons.1 hc with rfl | hc
        · exact Int.le_refl _
        · have := i2 c hc; omega
      · rw [List.singleton_append, has_cons, i3 m, has_cons]
        simp only
        constructor
        · rintro (⟨_, k1, k2⟩ | ⟨⟨k1, k2⟩, k3⟩)
          · refine ⟨by omega, ?_⟩
            rintro (k | ⟨c, hc, _, k3, k4⟩)
            · omega
            · have := hn.2.1 c hc; omega
          · refine ⟨by omega, ?_⟩
            rintro (k | k)
            · omega
            · exact k3 k
        · rintro ⟨k1, k2⟩
          by_cases hm : m < b.1
          · exact Or.inl ⟨h, by omega, hm⟩
          · refine Or.inr ⟨⟨?_, k1.2⟩, fun k => k2 (Or.inr k)⟩
            apply Int.not_lt.1
            intro hlt
            exact k2 (Or.inl ⟨hn.1, by omega, hlt⟩)
    · rw [if_neg h, List.nil_append]
      have hfb : b.1 ≤ f := by
        apply Int.not_lt.1
        intro hlt
        apply h; unfold Ok; simp only; omega
      refine ⟨i1, fun c hc => by have := i2 c hc; omega, fun m => ?_⟩
      rw [i3 m, has_cons]
      constructor
      · rintro ⟨⟨k1, k2⟩, k3⟩
        refine ⟨by omega, ?_⟩
        rintro (k | k)
        · omega
        · exact k3 k
      · rintro ⟨k1, k2⟩
        refine ⟨⟨?_, k1.2⟩, fun k => k2 (Or.inr k)⟩
        apply Int.not_lt.1
        intro hlt
        exact k2 (Or.inl ⟨hn.1, by omega, hlt⟩)
theorem tch_bad (l : List Sp) (a : Sp) (h : ¬ Ok a) : tch l a = [] := filter_none _ _ fun b _ => by
  exact decide_eq_false fun hc => h hc.2.1
theorem lack_row (l : List Sp) (a : Sp) (hn : Neat l) : lackC (tch l a) a = lackR l a := by
  have hl := lack_neat l a
  by_cases ha : Ok a
  · have oka := ha
    unfold Ok at oka
    have h := gaps_has (tch l a) a.1 a.2 (neat_filter _ l hn) oka.1 oka.2.2 (fun b hb => by
      have := (of_decide_eq_true (List.mem_filter.1 hb).2).2.2; omega) (fun b hb => by
      have := (of_decide_eq_true (List.mem_filter.1 hb).2).2.2; omega)
    refine neat_ext _ _ h.1 hl.1 fun m => ?_
    rw [hl.2 m]
    unfold lackC
    rw [h.2.2 m]
    constructor
    · rintro ⟨h1, h2⟩
      refine ⟨⟨ha, h1⟩, fun h => ?_⟩
      rcases (has_parts l a hn ha m).1 h with h | h | h
      · exact bef_out l a m h ⟨ha, h1⟩
      · exact h2 h
      · exact aft_out l a m h ⟨ha, h1⟩
    · rintro ⟨h1, h2⟩
      exact ⟨h1.2, fun h => h2 ((has_parts l a hn ha m).2 (Or.inr (Or.inl h)))⟩
  · have e : lackC (tch l a) a = [] := by
      rw [tch_bad l a ha]; unfold lackC; simp only [gaps, List.nil_append]
      rw [valid_one, if_neg]; exact ha
    rw [e]
    exact (neat_ext _ [] hl.1 trivial fun m => by
      rw [hl.2 m]; exact ⟨fun h => absurd h.1.1 ha, fun h => absurd h (has_nil m)⟩).symm
/-- Has, Meets: by one span of the row that meets a. -/
def MetBy (l : List Sp) (a x : Sp) : Prop := (x ∈ l ∧ Ok (meet x a)) ∨ (x = (0, 0) ∧ ∀ b, b ∈ l → ¬ Ok (meet b a))
theorem met_meets (l : List Sp) (a x : Sp) (hn : Neat l) (h : MetBy l a x) : okB x = decide (0 < (partR l a).length) := by
  rcases h with ⟨h1, h2⟩ | ⟨rfl, h2⟩
  · have : okB x = true := (okB_iff x).2 (neat_ok l hn x h1)
    rw [this]; symm
    apply decide_eq_true
    apply List.length_pos_of_mem (a := meet x a)
    exact List.mem_filter.2 ⟨List.mem_map.2 ⟨x, h1, rfl⟩, (okB_iff _).2 h2⟩
  · have : okB (0, 0) = false := (okB_not _).2 not_ok0
    rw [this]; symm
    apply decide_eq_false
    intro hp
    obtain ⟨c, hc⟩ := List.exists_mem_of_length_pos hp
    obtain ⟨b, hb, rfl, hok⟩ := partR_mem l a c hc
    exact h2 b hb hok
theorem met_has (l : List Sp) (a x : Sp) (hn : Neat l) (h : MetBy l a x) : withinB a x = decide ((lackR l a).length = 0) := by
  have hl := lack_neat l a
  have key : ((lackR l a).length = 0) ↔ ∀ m, (Ok a ∧ a.1 ≤ m ∧ m < a.2) → Has l m := by
    constructor
    · intro h0 m hm
      apply Classical.byContradiction
      intro hc
      have := (hl.2 m).2 ⟨hm, hc⟩
      rw [List.eq_nil_of_length_eq_zero h0] at this
      exact has_nil m this
    · intro hall
      rcases hL : lackR l a with _ | ⟨c, r⟩
      · rfl
      · exfalso
        have hn' := hl.1
        rw [hL] at hn'
        have okc := hn'.1
        unfold Ok at okc
        have := (hl.2 c.1).1 (by rw [hL]; exact ⟨c, List.mem_cons_self, hn'.1, by omega, by omega⟩)
        exact this.2 (hall _ this.1)
  rw [within_ref]
  unfold withinR
  apply decide_eq_decide.2
  rw [key]
  constructor
  · rintro (ha | ⟨h1, h2, h3⟩)
    · exact fun m hm => absurd hm.1 ha
    · intro m hm
      rcases h with ⟨hx, _⟩ | ⟨rfl, _⟩
      · exact ⟨x, hx, h1, by omega, by omega⟩
      · exact absurd h1 not_ok0
  · intro hall
    by_cases ha : Ok a
    · refine Or.inr ?_
      have oka := ha
      unfold Ok at oka
      obtain ⟨b, hb, okb, b1, b2⟩ := hall a.1 ⟨ha, by omega, by omega⟩
      have hb2 : a.2 ≤ b.2 := by
        apply Int.not_lt.1
        intro hlt
        have okb' := okb
        unfold Ok at okb'
        obtain ⟨c, hc, okc, c1, c2⟩ := hall b.2 ⟨ha, by omega, by omega⟩
        rcases neat_uniq l hn b hb c hc with rfl | h | h
        · omega
        · omega
        · omega
      have hmb : Ok (meet b a) := (ok_meet b a).2 ⟨okb, ha, by omega⟩
      rcases h with ⟨hx, hmx⟩ | ⟨_, hno⟩
      · have hxb : x = b := by
          rcases neat_uniq l hn x hx b hb with h | h | h
          · exact h
          · have := ((ok_meet x a).1 hmx).2.2; omega
          · have := ((ok_meet x a).1 hmx).2.2; omega
        subst hxb
        exact ⟨okb, b1, hb2⟩
      · exact absurd hmb (hno b hb)
    · exact Or.inl ha
end Spn

/- Plain facts of slates: lines and what is behind the last one, what Write, Limit, Rise make of a slate. No Go in sight. By hand. -/
import Derived.Below
import Derived.Lib.SplitLaws
namespace Go.Proofs.YtimhbpfeofdfnaaDoor
namespace Sl

abbrev Tx := List UInt8
/-- whole lines, and what is behind the last end. -/
def cutL : Tx → List Tx × Tx
  | [] => ([], [])
  | c :: t =>
    if c = 10 then ([] :: (cutL t).1, (cutL t).2)
    else match (cutL t).1 with
      | [] => ([], c :: (cutL t).2)
      | l :: ls => ((c :: l) :: ls, (cutL t).2)
def linesL (t : Tx) : List Tx := (cutL t).1
def restL (t : Tx) : Tx := (cutL t).2
/-- lines, each with its end. -/
def flatW (ls : List Tx) : Tx := (ls.map (· ++ [10])).flatten
/-- the whole lines, with their ends. -/
def keepL (t : Tx) : Tx := flatW (linesL t)
/-- no end within. -/
def One (t : Tx) : Prop := ∀ c ∈ t, c ≠ (10 : UInt8)

theorem flatW_nil : flatW [] = [] := rfl
theorem flatW_cons (l : Tx) (ls : List Tx) : flatW (l :: ls) = l ++ 10 :: flatW ls := by simp [flatW]
theorem flatW_app (a b : List Tx) : flatW (a ++ b) = flatW a ++ flatW b := by simp [flatW]
theorem flatW_snoc (a : List Tx) (l : Tx) : flatW (a ++ [l]) = flatW a ++ (l ++ [10]) := by simp [flatW]

theorem cut_rest : ∀ (r : Tx), One r → cutL r = ([], r)
  | [], _ => rfl
  | c :: r, h => by
    have h1 : c ≠ 10 := h c (by simp)
    have ih := cut_rest r (fun x hx => h x (by simp [hx]))
    unfold cutL; rw [ih, if_neg h1]
theorem cut_line : ∀ (l t : Tx), One l → cutL (l ++ 10 :: t) = (l :: (cutL t).1, (cutL t).2)
  | [], t, _ => by
    show cutL (10 :: t) = _
    rw [cutL.eq_2, if_pos rfl]
  | c :: l, t, h => by
    have h1 : c ≠ 10 := h c (by simp)
    have ih := cut_line l t (fun x hx => h x (by simp [hx]))
    show cutL (c :: (l ++ 10 :: t)) = _
    rw [cutL.eq_2, if_neg h1, ih]
theorem cut_flat : ∀ (ls : List Tx) (x : Tx), (∀ l ∈ ls, One l) → cutL (flatW ls ++ x) = (ls ++ (cutL x).1, (cutL x).2)
  | [], x, _ => by simp [flatW]
  | l :: ls, x, h => by
    rw [flatW_cons, List.append_assoc, List.cons_append, cut_line _ _ (h l (by simp)), cut_flat ls x (fun y hy => h y (by simp [hy]))]
    simp
/-- what a text is cut into. -/
theorem cut_spec : ∀ (t : Tx), t = flatW (linesL t) ++ restL t ∧ One (restL t) ∧ ∀ l ∈ linesL t, One l
  | [] => ⟨rfl, by intro c hc; simp [restL, cutL] at hc, by intro l hl; simp [linesL, cutL] at hl⟩
  | c :: t => by
    obtain ⟨h1, h2, h3⟩ := cut_spec t
    unfold linesL restL at *
    unfold cutL
    by_cases hc : c = 10
    · rw [if_pos hc]
      subst hc
      refine ⟨?_, h2, ?_⟩
      · show 10 :: t = _
        rw [flatW_cons, List.nil_append, List.cons_append, ← h1]
      · intro l hl
        rcases List.mem_cons.1 hl with rfl | hl
        · intro x hx; cases hx
        · exact h3 l hl
    · rw [if_neg hc]
      generalize (cutL t).1 = ls at *
      generalize (cutL t).2 = r at *
      cases ls with
      | nil =>
        refine ⟨?_, ?_, ?_⟩
        · show c :: t = flatW [] ++ c :: r
          rw [h1]; simp [flatW]
        · intro x hx
          rcases List.mem_cons.1 hx with rfl | hx
          · exact hc
          · exact h2 x hx
        · intro l hl; cases hl
      | cons l ls =>
        refine ⟨?_, h2, ?_⟩
        · show c :: t = flatW ((c :: l) :: ls) ++ r
          rw [h1, flatW_cons, flatW_cons]; simp
        · intro y hy
          rcases List.mem_cons.1 hy with rfl | hy
          · intro x hx
            rcases List.mem_cons.1 hx with rfl | hx
            · exact hc
            · exact h3 l (by simp) x hx
          · exact h3 y (by simp [hy])
theorem cut_is {t : Tx} {ls : List Tx} {r : Tx} (h : t = flatW ls ++ r) (h1 : ∀ l ∈ ls, One l) (h2 : One r) : linesL t = ls ∧ restL t = r := by
  subst h
  have := cut_flat ls r h1
  rw [cut_rest r h2] at this
  unfold linesL restL
  rw [this]; simp
theorem lines_flat (ls : List Tx) (x : Tx) (h : ∀ l ∈ ls, One l) : linesL (flatW ls ++ x) = ls ++ linesL x := by
  unfold linesL; rw [cut_flat ls x h]
theorem keep_flat (ls : List Tx) (x : Tx) (h : ∀ l ∈ ls, One l) : keepL (flatW ls ++ x) = flatW ls ++ keepL x := by
  unfold keepL; rw [lines_flat ls x h, flatW_app]
theorem lines_end (t : Tx) : linesL (t ++ [10]) = linesL t ++ [restL t] ∧ restL (t ++ [10]) = [] := by
  obtain ⟨h1, h2, h3⟩ := cut_spec t
  refine cut_is (ls := linesL t ++ [restL t]) ?_ ?_ (by intro c hc; cases hc)
  · conv => lhs; rw [h1]
    rw [flatW_snoc]; simp
  · intro l hl
    rcases List.mem_append.1 hl with hl | hl
    · exact h3 l hl
    · simp at hl; subst hl; exact h2
theorem lines_more (t : Tx) (c : UInt8) (hc : c ≠ 10) : linesL (t ++ [c]) = linesL t ∧ restL (t ++ [c]) = restL t ++ [c] := by
  obtain ⟨h1, h2, h3⟩ := cut_spec t
  refine cut_is (ls := linesL t) ?_ h3 ?_
  · conv => lhs; rw [h1]
    simp
  · intro x hx
    rcases List.mem_append.1 hx with hx | hx
    · exact h2 x hx
    · simp at hx; subst hx; exact hc
theorem keep_none (r : Tx) (h : One r) : keepL r = [] := by unfold keepL linesL; rw [cut_rest r h]; rfl
theorem keep_at (a r : Tx) (h : One r) : keepL (a ++ 10 :: r) = a ++ [10] := by
  obtain ⟨h1, h2, h3⟩ := cut_spec a
  have : linesL (a ++ 10 :: r) = linesL a ++ [restL a] := by
    refine (cut_is (ls := linesL a ++ [restL a]) (r := r) ?_ ?_ h).1
    · conv => lhs; rw [h1]
      rw [flatW_snoc]; simp
    · intro l hl
      rcases List.mem_append.1 hl with hl | hl
      · exact h3 l hl
      · simp at hl; subst hl; exact h2
  unfold keepL
  rw [this, flatW_snoc]
  conv => rhs; rw [h1]
  simp
theorem keep_pre (t : Tx) : ∃ r, t = keepL t ++ r ∧ One r := ⟨restL t, (cut_spec t).1, (cut_spec t).2.1⟩
theorem keep_len (t : Tx) : (keepL t).length ≤ t.length := by
  obtain ⟨r, h, _⟩ := keep_pre t
  have := congrArg List.length h
  simp at this; omega
theorem keep_take (t : Tx) : t.take (keepL t).length = keepL t := by
  obtain ⟨r, h, _⟩ := keep_pre t
  generalize keepL t = k at h ⊢
  subst h
  simp
/-- the last end. -/
theorem keep_last (t : Tx) (k : Nat) (hk : k < t.length) (h : t[k] = 10) (hn : One (t.drop (k + 1))) : (keepL t).length = k + 1 := by
  have e : t = t.take k ++ 10 :: t.drop (k + 1) := by
    conv => lhs; rw [← List.take_append_drop k t]
    rw [List.drop_eq_getElem_cons hk, h]
  have := keep_at (t.take k) (t.drop (k + 1)) hn
  rw [← e] at this
  rw [this]; simp; omega
theorem keep_end (t : Tx) : keepL t = [] ∨ (keepL t).getLast? = some 10 := by
  unfold keepL
  rcases List.eq_nil_or_concat (linesL t) with h | ⟨ls, l, h⟩
  · left; rw [h]; rfl
  · right; rw [h, List.concat_eq_append, flatW_snoc]; simp [List.getLast?_append]
theorem keep_keep (t : Tx) : keepL (keepL t) = keepL t := by
  have := keep_flat (linesL t) [] (cut_spec t).2.2
  rw [List.append_nil] at this
  show keepL (flatW (linesL t)) = _
  rw [this, keep_none [] (by intro c hc; cases hc), List.append_nil]; rfl
theorem lines_keep (t : Tx) : linesL (keepL t) = linesL t := by
  have := lines_flat (linesL t) [] (cut_spec t).2.2
  rw [List.append_nil] at this
  show linesL (flatW (linesL t)) = _
  rw [this]; show linesL t ++ [] = _; simp

/-- where an end is looked for. -/
theorem idx_line : ∀ (l t : Tx), One l → Lib.index (l ++ 10 :: t) [10] = (l.length : Int)
  | [], t, _ => by
    show Lib.index (10 :: t) [10] = _
    unfold Lib.index
    have : ([10] : Tx).isPrefixOf (10 :: t) = true := by simp [List.isPrefixOf]
    rw [this]; rfl
  | c :: l, t, h => by
    have h1 : c ≠ 10 := h c (by simp)
    have ih := idx_line l t (fun x hx => h x (by simp [hx]))
    show Lib.index (c :: (l ++ 10 :: t)) [10] = _
    unfold Lib.index
    have : ([10] : Tx).isPrefixOf (c :: (l ++ 10 :: t)) = false := by simp [List.isPrefixOf]; exact fun e => h1 e.symm
    rw [this, ih]
    have h2 : (((l.length : Int) == -1) = true) = False := by simp
    simp [h2]
theorem idx_none : ∀ (r : Tx), One r → Lib.index r [10] = -1
  | [], _ => by unfold Lib.index; rfl
  | c :: r, h => by
    have h1 : c ≠ 10 := h c (by simp)
    have ih := idx_none r (fun x hx => h x (by simp [hx]))
    unfold Lib.index
    have : ([10] : Tx).isPrefixOf (c :: r) = false := by simp [List.isPrefixOf]; exact fun e => h1 e.symm
    rw [this, ih]; simp
/-- an end within. -/
def hasE (t : Tx) : Bool := decide ((10 : UInt8) ∈ t)
theorem hasE_no {t : Tx} : hasE t = false ↔ One t := by
  unfold hasE One
  rw [decide_eq_false_iff_not]
  exact ⟨fun h c hc e => h (e ▸ hc), fun h hm => h 10 hm rfl⟩
theorem contains_is (t : Tx) : Lib.contains t [10] = hasE t := by
  unfold Lib.contains
  cases h : hasE t with
  | false => rw [idx_none t (hasE_no.1 h)]; rfl
  | true =>
    unfold hasE at h
    have hm := of_decide_eq_true h
    obtain ⟨h1, h2, h3⟩ := cut_spec t
    rcases hl : linesL t with _ | ⟨l, ls⟩
    · rw [hl] at h1
      have : t = restL t := by simpa [flatW] using h1
      rw [this] at hm
      exact absurd rfl (h2 10 hm)
    · rw [hl] at h1 h3
      rw [flatW_cons, List.append_assoc, List.cons_append] at h1
      rw [h1, idx_line l _ (h3 l (by simp))]
      simp
theorem splitK_is : ∀ (ls : List Tx) (r : Tx), (∀ l ∈ ls, One l) → One r → Lib.splitK [10] 0 ls.length (flatW ls ++ r) = ls ++ [r]
  | [], r, _, _ => by simp [Lib.splitK, flatW]
  | l :: ls, r, h, hr => by
    have ih := splitK_is ls r (fun x hx => h x (by simp [hx])) hr
    rw [flatW_cons, List.append_assoc, List.cons_append]
    show Lib.splitK [10] 0 (ls.length + 1) _ = _
    unfold Lib.splitK
    rw [idx_line l _ (h l (by simp))]
    have h2 : (((l.length : Int) == -1) = true) = False := by simp
    simp [h2, ih]
theorem split_is (t : Tx) : Lib.split t [10] = linesL t ++ [restL t] := by
  obtain ⟨h1, h2, h3⟩ := cut_spec t
  unfold Lib.split
  rw [Lib.count_one]
  have hc : t.count 10 = (linesL t).length := by
    conv => lhs; rw [h1]
    rw [List.count_append, List.count_eq_zero.2 (fun hm => h2 10 hm rfl)]
    have : ∀ ls : List Tx, (∀ l ∈ ls, One l) → (flatW ls).count 10 = ls.length := by
      intro ls
      induction ls with
      | nil => intro _; rfl
      | cons l ls ih =>
        intro h
        rw [flatW_cons, List.count_append, List.count_eq_zero.2 (fun hm => h l (by simp) 10 hm rfl), List.count_cons_self, ih (fun x hx => h x (by simp [hx]))]
        simp
    rw [this _ h3]; rfl
  rw [hc]
  have g := splitK_is (linesL t) (restL t) h3 h2
  rw [← h1] at g
  exact g

/-- a slate. -/
structure St where
  t : Tx
  off : Bool
  lim : Bool
  left : Nat
def newS (t : Tx) : St := ⟨t, false, false, 0⟩
def limitS (s : St) (n : Int) : St := ⟨s.t, s.off, true, n.toNat⟩
def riseS (s : St) : St := ⟨keepL s.t, false, false, 0⟩
/-- what one text's bytes make of the slate: is it there wholly? -/
def putB (s : St) (p : Tx) : Bool := !s.lim || decide (p.length ≤ s.left)
def putS (s : St) (p : Tx) : St :=
  if s.lim = true then ⟨s.t ++ p.take s.left, decide (s.left < p.length), true, s.left - p.length⟩ else ⟨s.t ++ p, s.off, false, s.left⟩
def shortB (s : St) (ls : List Tx) : Bool := s.lim && decide (s.left < (flatW ls).length)
def writeN (s : St) (ls : List Tx) : Nat :=
  if s.off = true then 19 else if ls.any hasE = true then 14 else if shortB s ls = true then 19 else 0
def writeS (s : St) (ls : List Tx) : St :=
  if s.off = true then s else if ls.any hasE = true then s
  else if s.lim = true then ⟨s.t ++ (flatW ls).take s.left, decide (s.left < (flatW ls).length), true, s.left - (flatW ls).length⟩
  else ⟨s.t ++ flatW ls, false, false, s.left⟩
/-- bytes that went in wholly. -/
def wholeS (s : St) (p : Tx) : St := if s.lim = true then ⟨s.t ++ p, false, true, s.left - p.length⟩ else ⟨s.t ++ p, false, false, s.left⟩
theorem whole_nil (s : St) (h : s.off = false) : wholeS s [] = s := by
  obtain ⟨t, o, l, n⟩ := s
  simp only at h
  subst h
  cases l <;> simp [wholeS]
/-- bytes one behind the other. -/
theorem put_whole (s : St) (p q : Tx) (h : s.lim = true → p.length ≤ s.left) (hq : putB (wholeS s p) q = true) : putS (wholeS s p) q = wholeS s (p ++ q) ∧ (s.lim = true → (p ++ q).length ≤ s.left) := by
  cases hl : s.lim with
  | false =>
    refine ⟨?_, by intro e; cases e⟩
    simp [putS, wholeS, hl]
  | true =>
    have := h hl
    simp only [wholeS, hl, putB, if_true, Bool.not_true, Bool.false_or, decide_eq_true_eq] at hq
    refine ⟨?_, fun _ => by simp; omega⟩
    simp only [putS, wholeS, hl, if_true]
    rw [List.take_of_length_le hq, decide_eq_false (by omega)]
    simp; omega
theorem put_short (s : St) (p q : Tx) (r : Tx) (h : s.lim = true → p.length ≤ s.left) (hq : putB (wholeS s p) q = false) :
    s.lim = true ∧ s.left < (p ++ q ++ r).length ∧ putS (wholeS s p) q = ⟨s.t ++ (p ++ q ++ r).take s.left, true, true, 0⟩ := by
  cases hl : s.lim with
  | false => simp [putB, wholeS, hl] at hq
  | true =>
    have := h hl
    simp only [wholeS, hl, putB, if_true, Bool.not_true, Bool.false_or, decide_eq_false_iff_not] at hq
    have hq' : s.left - p.length < q.length := by omega
    refine ⟨rfl, by simp; omega, ?_⟩
    simp only [putS, wholeS, hl, if_true]
    rw [decide_eq_true hq', List.append_assoc p q r, List.take_append, List.take_of_length_le this, List.take_append_of_le_length (by omega)]
    have : s.left - p.length - q.length = 0 := by omega
    rw [this, List.append_assoc]
theorem whole_write (s : St) (ls : List Tx) (h0 : s.off = false) (h1 : ls.any hasE = false) (h : s.lim = true → (flatW ls).length ≤ s.left) : writeS s ls = wholeS s (flatW ls) ∧ writeN s ls = 0 := by
  refine ⟨?_, ?_⟩
  · unfold writeS wholeS
    rw [h0, h1]
    cases hl : s.lim with
    | false => simp
    | true =>
      have := h hl
      simp only [if_true, Bool.false_eq_true, if_false]
      rw [List.take_of_length_le this, decide_eq_false (by omega)]
  · unfold writeN shortB
    rw [h0, h1]
    cases hl : s.lim with
    | false => simp
    | true =>
      have := h hl
      rw [decide_eq_false (by omega)]; simp
theorem short_write (s : St) (ls : List Tx) (h0 : s.off = false) (h1 : ls.any hasE = false) (hl : s.lim = true) (h : s.left < (flatW ls).length) :
    writeS s ls = ⟨s.t ++ (flatW ls).take s.left, true, true, 0⟩ ∧ writeN s ls = 19 := by
  refine ⟨?_, ?_⟩
  · unfold writeS
    rw [h0, h1, hl, decide_eq_true h]
    have : s.left - (flatW ls).length = 0 := by omega
    simp [this]
  · unfold writeN shortB
    rw [h0, h1, hl, decide_eq_true h]; simp
theorem write_off (s : St) (ls : List Tx) (h : s.off = true) : writeS s ls = s ∧ writeN s ls = 19 := by simp [writeS, writeN, h]
theorem write_form (s : St) (ls : List Tx) (h : s.off = false) (h1 : ls.any hasE = true) : writeS s ls = s ∧ writeN s ls = 14 := by simp [writeS, writeN, h, h1]
theorem flatW_len (ls : List Tx) (m : Nat) (h : ∀ l ∈ ls, l.length ≤ m) : (flatW ls).length ≤ ls.length * (m + 1) := by
  induction ls with
  | nil => simp [flatW]
  | cons l ls ih =>
    have := ih (fun x hx => h x (by simp [hx]))
    have h1 := h l (by simp)
    rw [flatW_cons, List.length_append, List.length_cons, List.length_cons, Nat.add_mul]
    omega
theorem write_len (s : St) (ls : List Tx) : (writeS s ls).t.length ≤ s.t.length + (flatW ls).length := by
  unfold writeS
  split
  · omega
  · split
    · omega
    · split
      · simp; omega
      · simp
theorem write_left (s : St) (ls : List Tx) : (writeS s ls).left ≤ s.left := by
  unfold writeS
  split
  · omega
  · split
    · omega
    · split <;> simp
end Sl
end Go.Proofs.YtimhbpfeofdfnaaDoor

/- Plain facts of folded lines and of escaped signs; no word of a program. -/
import Derived.Test.YtpicfpadednnoaaDoorRtText
import Derived.Lib.IndexLaws
namespace Go.Proofs.YtpicfpadednnoaaDoor.Fo
open Go.Proofs.YtpicfpadednnoaaDoor Rul Rt

/-! ### a line in pieces -/
/-- a line's pieces, the first of at most r bytes. -/
def pc (r : Nat) (s : Tx) : List Tx := if s.length ≤ r ∨ r = 0 then [s] else s.take r :: pc 74 (s.drop r)
 termination_by s.length
 decreasing_by simp only [List.length_drop]; omega
theorem pc_all (r : Nat) (s : Tx) (h : s.length ≤ r) : pc r s = [s] := by rw [pc, if_pos (Or.inl h)]
theorem pc_more (r : Nat) (s : Tx) (h : r < s.length) (hr : r ≠ 0) : pc r s = s.take r :: pc 74 (s.drop r) := by
  rw [pc, if_neg (by omega)]
def sepE : Tx := [13, 10, 32]
/-- what stands behind a line's first piece. -/
def tlE (s : Tx) : Tx := if s.length = 0 then [] else sepE ++ (s.take 74 ++ tlE (s.drop 74))
 termination_by s.length
 decreasing_by simp only [List.length_drop]; omega
theorem tlE_nil : tlE [] = [] := by rw [tlE, if_pos List.length_nil]
theorem tlE_more (s : Tx) (h : 0 < s.length) : tlE s = sepE ++ (s.take 74 ++ tlE (s.drop 74)) := by
  rw [tlE, if_neg (by omega)]
/-- a line folded. -/
def foldE (s : Tx) : Tx := s.take 75 ++ tlE (s.drop 75)
theorem foldE_short (s : Tx) (h : s.length ≤ 75) : foldE s = s := by
  unfold foldE
  rw [List.take_of_length_le h, List.drop_eq_nil_of_le h, tlE_nil, List.append_nil]
theorem tail_pc : ∀ (k : Nat) (s : Tx), s.length ≤ k → 0 < s.length → Lib.joinTail sepE (pc 74 s) = tlE s
  | 0, s, hk, h0 => by omega
  | k + 1, s, hk, h0 => by
    by_cases h : s.length ≤ 74
    · rw [pc_all 74 s h, tlE_more s h0, List.take_of_length_le h, List.drop_eq_nil_of_le h, tlE_nil, List.append_nil]
      simp [Lib.joinTail]
    · rw [pc_more 74 s (by omega) (by decide), tlE_more s h0]
      have ih := tail_pc k (s.drop 74) (by rw [List.length_drop]; omega) (by rw [List.length_drop]; omega)
      rw [← ih]
      simp [Lib.joinTail]
theorem join_pc (s : Tx) : Lib.join (pc 75 s) sepE = foldE s := by
  unfold foldE
  by_cases h : s.length ≤ 75
  · rw [pc_all 75 s h, Lib.join_one, List.take_of_length_le h, List.drop_eq_nil_of_le h, tlE_nil, List.append_nil]
  · rw [pc_more 75 s (by omega) (by decide), Lib.join_cons, tail_pc _ (s.drop 75) (Nat.le_refl _) (by rw [List.length_drop]; omega)]
theorem pc_len : ∀ (k : Nat) (r : Nat) (s : Tx), s.length ≤ k → (pc r s).length ≤ s.length + 1
  | 0, r, s, hk => by rw [pc_all r s (by omega)]; simp
  | k + 1, r, s, hk => by
    by_cases h : s.length ≤ r ∨ r = 0
    · rw [pc, if_pos h]; simp
    · rw [pc_more r s (by omega) (by omega)]
      have ih := pc_len k 74 (s.drop r) (by rw [List.length_drop]; omega)
      rw [List.length_drop] at ih
      simp only [List.length_cons]; omega
theorem tlE_len : ∀ (k : Nat) (s : Tx), s.length ≤ k → (tlE s).length = s.length + 3 * ((s.length + 73) / 74)
  | 0, s, hk => by
    have : s = [] := List.eq_nil_of_length_eq_zero (by omega)
    subst this; rw [tlE_nil]; rfl
  | k + 1, s, hk => by
    by_cases h : s.length = 0
    · have : s = [] := List.eq_nil_of_length_eq_zero h
      subst this; rw [tlE_nil]; rfl
    · have ih := tlE_len k (s.drop 74) (by rw [List.length_drop]; omega)
      rw [tlE_more s (by omega), List.length_append, List.length_append, ih, List.length_take, List.length_drop]
      simp only [sepE, List.length_cons, List.length_nil]
      omega
theorem foldE_len (s : Tx) : (foldE s).length = s.length + 3 * ((s.length - 75 + 73) / 74) := by
  unfold foldE
  rw [List.length_append, tlE_len _ _ (Nat.le_refl _), List.length_take, List.length_drop]
  omega

/-! ### signs -/
def escB (c : UInt8) : Tx := if c = 92 ∨ c = 59 ∨ c = 44 then [92, c] else if c = 10 then [92, 110] else [c]
def escE (s : Tx) : Tx := s.flatMap escB
theorem escE_snoc (s : Tx) (c : UInt8) : escE (s ++ [c]) = escE s ++ escB c := by simp [escE]
theorem escB_len (c : UInt8) : (escB c).length ≤ 2 := by
  unfold escB
  split
  · simp
  · split <;> simp
theorem escE_len (s : Tx) : (escE s).length ≤ 2 * s.length := by
  induction s with
  | nil => simp [escE]
  | cons c t ih =>
    have := escB_len c
    simp only [escE, List.flatMap_cons, List.length_append, List.length_cons] at *
    omega
/-- signs that are escaped. -/
def sgn (c : UInt8) : Bool := c == 92 || c == 59 || c == 44 || c == 10
theorem escE_count (s : Tx) : (escE s).length = s.length + s.countP sgn := by
  induction s with
  | nil => rfl
  | cons c t ih =>
    have e : (escB c).length = 1 + (if sgn c = true then 1 else 0) := by
      unfold escB sgn
      by_cases h1 : c = 92
      · subst h1; rfl
      by_cases h2 : c = 59
      · subst h2; rfl
      by_cases h3 : c = 44
      · subst h3; rfl
      by_cases h4 : c = 10
      · subst h4; rfl
      simp [h1, h2, h3, h4]
    have e2 : escE (c :: t) = escB c ++ escE t := by simp [escE]
    rw [e2, List.length_append, ih, e, List.countP_cons, List.length_cons]
    omega
def mean (d : UInt8) : Option UInt8 := if d = 92 ∨ d = 59 ∨ d = 44 then some d else if d = 110 ∨ d = 78 then some 10 else none
def bad (c : UInt8) : Bool := c == 59 || c == 44 || c == 10
def unE : Tx → Option Tx
  | [] => some []
  | c :: t => if c = 92 then (match t with
      | [] => none
      | d :: u => match mean d with
        | none => none
        | some b => (unE u).map (b :: ·))
    else if bad c = true then none else (unE t).map (c :: ·)
theorem unE_mark_end : unE [92] = none := rfl
theorem unE_mark (d : UInt8) (u : Tx) : unE (92 :: d :: u) = match mean d with
    | none => none
    | some b => (unE u).map (b :: ·) := by rw [unE, if_pos rfl]
theorem unE_bad (c : UInt8) (t : Tx) (h : c ≠ 92) (hb : bad c = true) : unE (c :: t) = none := by
  rw [unE.eq_def]; simp only [if_neg h, if_pos hb]
theorem unE_plain (c : UInt8) (t : Tx) (h : c ≠ 92) (hb : bad c = false) : unE (c :: t) = (unE t).map (c :: ·) := by
  rw [unE.eq_def]; simp only [if_neg h, hb, Bool.false_eq_true, if_false]
theorem map_nil (o : Option Tx) : o.map (([] : Tx) ++ ·) = o := by cases o <;> rfl
theorem map_app (p q : Tx) (o : Option Tx) : (o.map (q ++ ·)).map (p ++ ·) = o.map ((p ++ q) ++ ·) := by cases o <;> simp
theorem unE_esc (x : Tx) : ∀ s : Tx, unE (escE s ++ x) = (unE x).map (s ++ ·)
  | [] => by rw [map_nil]; rfl
  | c :: t => by
    have ih := unE_esc x t
    have e2 : escE (c :: t) ++ x = escB c ++ (escE t ++ x) := by simp [escE]
    have hm : (unE x).map ((c :: t) ++ ·) = ((unE x).map (t ++ ·)).map (c :: ·) := by cases unE x <;> simp
    rw [e2, hm, ← ih]
    unfold escB
    by_cases h1 : c = 92 ∨ c = 59 ∨ c = 44
    · rw [if_pos h1]
      show unE (92 :: c :: (escE t ++ x)) = _
      rw [unE_mark, mean, if_pos h1]
    · rw [if_neg h1]
      by_cases h2 : c = 10
      · subst h2
        rw [if_pos rfl]
        show unE (92 :: 110 :: (escE t ++ x)) = _
        rw [unE_mark]; rfl
      · rw [if_neg h2]
        show unE (c :: (escE t ++ x)) = _
        exact unE_plain c _ (fun e => h1 (Or.inl e)) (by simp [bad, h2]; exact ⟨fun e => h1 (Or.inr (Or.inl e)), fun e => h1 (Or.inr (Or.inr e))⟩)
theorem unE_escE (s : Tx) : unE (escE s) = some s := by
  have := unE_esc [] s
  rw [List.append_nil] at this
  rw [this]; simp [unE]
theorem unE_run (x : Tx) : ∀ p : Tx, 92 ∉ p → unE (p ++ x) = if p.any bad = true then none else (unE x).map (p ++ ·)
  | [], _ => by rw [map_nil]; rfl
  | c :: t, h => by
    have hc : c ≠ 92 := fun e => h (e ▸ List.mem_cons_self)
    have ih := unE_run x t fun g => h (List.mem_cons_of_mem _ g)
    rw [List.cons_append]
    cases hb : bad c with
    | true => rw [unE_bad c _ hc hb, List.any_cons, hb]; rfl
    | false =>
      rw [unE_plain c _ hc hb, ih, List.any_cons, hb, Bool.false_or]
      split
      · rfl
      · cases unE x <;> simp
theorem unE_end (p : Tx) (h : 92 ∉ p) : unE p = if p.any bad = true then none else some p := by
  have := unE_run [] p h
  rw [List.append_nil] at this
  rw [this]; simp [unE]
/-- what is read is no longer than what it is read of. -/
theorem unE_len : ∀ (k : Nat) (s t : Tx), s.length ≤ k → unE s = some t → t.length ≤ s.length
  | _, [], t, _, h => by simp [unE] at h; subst h; simp
  | 0, c :: s, t, hk, _ => by simp at hk
  | k + 1, c :: s, t, hk, h => by
    by_cases hc : c = 92
    · subst hc
      cases s with
      | nil => simp [unE] at h
      | cons d u =>
        rw [unE_mark] at h
        cases hm : mean d with
        | none => rw [hm] at h; cases h
        | some b =>
          rw [hm] at h
          simp only [Option.map_eq_some_iff] at h
          obtain ⟨v, hv, rfl⟩ := h
          have := unE_len k u v (by simp at hk; omega) hv
          simp only [List.length_cons]; omega
    · cases hb : bad c with
      | true => rw [unE_bad c s hc hb] at h; cases h
      | false =>
        rw [unE_plain c s hc hb, Option.map_eq_some_iff] at h
        obtain ⟨v, hv, rfl⟩ := h
        have := unE_len k s v (by simp at hk; omega) hv
        simp only [List.length_cons]; omega

/-! ### lines -/
def crlf : Tx := [13, 10]
theorem crlf_len : crlf.length = 2 := rfl
theorem occ_none (s : Tx) : Lib.occAt s crlf s.length = false := by simp [Lib.occAt, crlf]
theorem split_miss (s : Tx) (h : Lib.NoOcc s crlf s.length) : Lib.split s crlf = [s] := by
  have hi : Lib.index s crlf = -1 := by
    rcases Lib.index_spec s crlf with ⟨h1, _⟩ | ⟨i, h1, h2, h3, _⟩
    · exact h1
    · rcases Nat.lt_or_ge i s.length with g | g
      · rw [h i g] at h3; cases h3
      · have : i = s.length := by omega
        subst this; rw [occ_none] at h3; cases h3
  unfold Lib.split
  rw [Lib.count_miss hi]; rfl
theorem split_hit (s : Tx) (i : Nat) (h : Lib.NoOcc s crlf i) (hi : i ≤ s.length) (ho : Lib.occAt s crlf i = true) : Lib.split s crlf = s.take i :: Lib.split (s.drop (i + 2)) crlf := by
  have hx : Lib.index s crlf = i := Lib.index_hit h hi ho
  unfold Lib.split
  rw [Lib.count_hit (by decide) hx, Nat.add_comm 1, Lib.splitK, if_neg (by rw [beq_iff_eq]; omega), hx, crlf_len]
  simp
theorem noOcc_free (p q : Tx) (h : (13 : UInt8) ∉ p) : Lib.NoOcc (p ++ q) crlf p.length := fun j hj => by
  unfold Lib.occAt
  rw [List.drop_append_of_le_length (Nat.le_of_lt hj), List.drop_eq_getElem_cons hj]
  have : p[j] ≠ 13 := fun e => h (e ▸ List.getElem_mem hj)
  show List.isPrefixOf (13 :: [10]) (p[j] :: (p.drop (j + 1) ++ q)) = false
  rw [List.isPrefixOf]
  rw [Bool.and_eq_false_iff]; left; exact beq_eq_false_iff_ne.2 (Ne.symm this)
theorem split_free (p : Tx) (h : (13 : UInt8) ∉ p) : Lib.split p crlf = [p] := by
  have := noOcc_free p [] h
  rw [List.append_nil] at this
  exact split_miss p this
theorem split_app (p q : Tx) (h : (13 : UInt8) ∉ p) : Lib.split (p ++ crlf ++ q) crlf = p :: Lib.split q crlf := by
  rw [List.append_assoc]
  have h1 := noOcc_free p (crlf ++ q) h
  have h2 : Lib.occAt (p ++ (crlf ++ q)) crlf p.length = true := by
    unfold Lib.occAt
    rw [List.drop_left' rfl]
    simp [crlf]
  rw [split_hit _ p.length h1 (by simp) h2, List.take_left' rfl]
  congr 2
  rw [List.drop_append]
  simp [crlf]
theorem split_ne (s : Tx) : Lib.split s crlf ≠ [] := by
  intro e
  unfold Lib.split at e
  cases h : Lib.count s crlf with
  | zero => rw [h] at e; simp [Lib.splitK] at e
  | succ k =>
    rw [h, Lib.splitK] at e
    split at e <;> simp at e
/-- the last piece falls away if it is empty. -/
def fin (l : List Tx) : List Tx := if l.getLast? = some [] then l.dropLast else l
theorem fin_snoc (l : List Tx) : fin (l ++ [[]]) = l := by simp [fin]
theorem fin_keep (l : List Tx) (p : Tx) (h : p ≠ []) : fin (l ++ [p]) = l ++ [p] := by
  simp [fin, h]
theorem fin_cons (p : Tx) (l : List Tx) (h : l ≠ []) : fin (p :: l) = p :: fin l := by
  obtain ⟨q, r, rfl⟩ := List.exists_cons_of_ne_nil h
  unfold fin
  rw [List.getLast?_cons_cons]
  split <;> simp
theorem fin_none : fin [[]] = [] := rfl
theorem fin_one (p : Tx) (h : p ≠ []) : fin [p] = [p] := fin_keep [] p h
/-- a line that begins with a blank goes on with the one before it. -/
def snoc (out : List Tx) (p : Tx) : List Tx := if out ≠ [] ∧ p.head? = some 32 then out.dropLast ++ [out.getLastD [] ++ p.tail] else out ++ [p]
theorem snoc_new (out : List Tx) (p : Tx) (h : p.head? ≠ some 32) : snoc out p = out ++ [p] := by
  unfold snoc; rw [if_neg fun g => h g.2]
theorem snoc_nil (p : Tx) : snoc [] p = [p] := by
  unfold snoc; rw [if_neg fun g => g.1 rfl]; rfl
theorem snoc_on (out : List Tx) (x t : Tx) : snoc (out ++ [x]) (32 :: t) = out ++ [x ++ t] := by
  unfold snoc
  rw [if_pos ⟨by simp, rfl⟩, List.dropLast_concat]
  simp
def linesE (ps : List Tx) : List Tx := ps.foldl snoc []
/-- a text's lines. -/
def unfoldE (s : Tx) : List Tx := linesE (fin (Lib.split s crlf))

/-! ### what is folded is unfolded -/
/-- a folded line's pieces, with their blanks. -/
def ftl (s : Tx) : List Tx := if s.length = 0 then [] else (32 :: s.take 74) :: ftl (s.drop 74)
 termination_by s.length
 decreasing_by simp only [List.length_drop]; omega
theorem ftl_nil : ftl [] = [] := by rw [ftl, if_pos List.length_nil]
theorem ftl_more (s : Tx) (h : 0 < s.length) : ftl s = (32 :: s.take 74) :: ftl (s.drop 74) := by
  rw [ftl, if_neg (by omega)]
def fpc (s : Tx) : List Tx := s.take 75 :: ftl (s.drop 75)
theorem not_take {c : UInt8} {s : Tx} (h : c ∉ s) (k : Nat) : c ∉ s.take k := fun g => h (List.mem_of_mem_take g)
theorem not_drop {c : UInt8} {s : Tx} (h : c ∉ s) (k : Nat) : c ∉ s.drop k := fun g => h (List.mem_of_mem_drop g)
theorem split_tl : ∀ (k : Nat) (p s rest : Tx), s.length ≤ k → (13 : UInt8) ∉ p → (13 : UInt8) ∉ s → Lib.split (p ++ tlE s ++ crlf ++ rest) crlf = p :: (ftl s ++ Lib.split rest crlf)
  | 0, p, s, rest, hk, hp, hs => by
    have : s = [] := List.eq_nil_of_length_eq_zero (by omega)
    subst this
    rw [tlE_nil, ftl_nil, List.append_nil, split_app p rest hp]; rfl
  | k + 1, p, s, rest, hk, hp, hs => by
    by_cases h : s.length = 0
    · have : s = [] := List.eq_nil_of_length_eq_zero h
      subst this
      rw [tlE_nil, ftl_nil, List.append_nil, split_app p rest hp]; rfl
    · have e : p ++ tlE s ++ crlf ++ rest = p ++ crlf ++ ((32 :: s.take 74) ++ tlE (s.drop 74) ++ crlf ++ rest) := by
        rw [tlE_more s (by omega)]; simp [sepE, crlf]
      rw [e, split_app p _ hp, ftl_more s (by omega)]
      rw [split_tl k (32 :: s.take 74) (s.drop 74) rest (by rw [List.length_drop]; omega) (by
        intro g; rcases List.mem_cons.1 g with g | g
        · revert g; decide
        · exact not_take hs 74 g) (not_drop hs 74)]
      rfl
theorem split_tl_end : ∀ (k : Nat) (p s : Tx), s.length ≤ k → (13 : UInt8) ∉ p → (13 : UInt8) ∉ s → Lib.split (p ++ tlE s) crlf = p :: ftl s
  | 0, p, s, hk, hp, hs => by
    have : s = [] := List.eq_nil_of_length_eq_zero (by omega)
    subst this
    rw [tlE_nil, ftl_nil, List.append_nil, split_free p hp]
  | k + 1, p, s, hk, hp, hs => by
    by_cases h : s.length = 0
    · have : s = [] := List.eq_nil_of_length_eq_zero h
      subst this
      rw [tlE_nil, ftl_nil, List.append_nil, split_free p hp]
    · have e : p ++ tlE s = p ++ crlf ++ ((32 :: s.take 74) ++ tlE (s.drop 74)) := by
        rw [tlE_more s (by omega)]; simp [sepE, crlf]
      rw [e, split_app p _ hp, ftl_more s (by omega)]
      rw [split_tl_end k (32 :: s.take 74) (s.drop 74) (by rw [List.length_drop]; omega) (by
        intro g; rcases List.mem_cons.1 g with g | g
        · revert g; decide
        · exact not_take hs 74 g) (not_drop hs 74)]
theorem split_fold (s rest : Tx) (hs : (13 : UInt8) ∉ s) : Lib.split (foldE s ++ crlf ++ rest) crlf = fpc s ++ Lib.split rest crlf := by
  unfold foldE fpc
  rw [split_tl _ _ _ rest (Nat.le_refl _) (not_take hs _) (not_drop hs _)]; rfl
theorem split_fold_end (s : Tx) (hs : (13 : UInt8) ∉ s) : Lib.split (foldE s) crlf = fpc s := by
  unfold foldE fpc
  rw [split_tl_end _ _ _ (Nat.le_refl _) (not_take hs _) (not_drop hs _)]
theorem lines_tl (r : List Tx) : ∀ (k : Nat) (s x : Tx) (out : List Tx), s.length ≤ k → (ftl s ++ r).foldl snoc (out ++ [x]) = r.foldl snoc (out ++ [x ++ s])
  | 0, s, x, out, hk => by
    have : s = [] := List.eq_nil_of_length_eq_zero (by omega)
    subst this
    rw [ftl_nil, List.append_nil]; rfl
  | k + 1, s, x, out, hk => by
    by_cases h : s.length = 0
    · have : s = [] := List.eq_nil_of_length_eq_zero h
      subst this
      rw [ftl_nil, List.append_nil]; rfl
    · rw [ftl_more s (by omega), List.cons_append, List.foldl_cons, snoc_on, lines_tl r k (s.drop 74) (x ++ s.take 74) out (by rw [List.length_drop]; omega), List.append_assoc, List.take_append_drop]
theorem head_take {s : Tx} {k : Nat} (hk : 0 < k) : (s.take k).head? = s.head? := by
  cases s with
  | nil => simp
  | cons c t => cases k with
    | zero => omega
    | succ k => rfl
theorem lines_fpc (s : Tx) (r out : List Tx) (h : s.head? ≠ some 32) : (fpc s ++ r).foldl snoc out = r.foldl snoc (out ++ [s]) := by
  unfold fpc
  rw [List.cons_append, List.foldl_cons, snoc_new out _ (by rw [head_take (by decide)]; exact h), lines_tl r _ _ _ _ (Nat.le_refl _), List.take_append_drop]
/-- lines folded, one behind the other. -/
def flat : List Tx → Tx
  | [] => []
  | s :: l => foldE s ++ crlf ++ flat l
theorem flat_snoc (s : Tx) : ∀ l : List Tx, flat (l ++ [s]) = flat l ++ (foldE s ++ crlf)
  | [] => by simp [flat]
  | x :: l => by rw [List.cons_append, flat, flat_snoc s l, flat]; simp
theorem split_flat : ∀ l : List Tx, (∀ s ∈ l, (13 : UInt8) ∉ s) → Lib.split (flat l) crlf = l.flatMap fpc ++ [[]]
  | [], _ => by rw [flat, split_free [] (by simp)]; rfl
  | s :: l, h => by
    rw [flat, split_fold s _ (h s (by simp)), split_flat l fun x hx => h x (List.mem_cons_of_mem _ hx)]
    simp
theorem lines_flat : ∀ (l out : List Tx), (∀ s ∈ l, s.head? ≠ some 32) → (l.flatMap fpc).foldl snoc out = out ++ l
  | [], out, _ => by simp
  | s :: l, out, h => by
    rw [List.flatMap_cons, lines_fpc s _ out (h s (by simp)), lines_flat l _ fun x hx => h x (List.mem_cons_of_mem _ hx)]
    simp
theorem unfold_flat (l : List Tx) (h : ∀ s ∈ l, s.head? ≠ some 32 ∧ (13 : UInt8) ∉ s) : unfoldE (flat l) = l := by
  unfold unfoldE linesE
  rw [split_flat l fun s hs => (h s hs).2, fin_snoc, lines_flat l [] fun s hs => (h s hs).1]; rfl
theorem fin_fpc (s : Tx) (h : s ≠ []) : fin (fpc s) = fpc s := by
  have hl : ∀ (k : Nat) (t : Tx), t.length ≤ k → ∀ x, x ≠ [] → fin (x :: ftl t) = x :: ftl t := by
    intro k
    induction k with
    | zero =>
      intro t ht x hx
      have : t = [] := List.eq_nil_of_length_eq_zero (by omega)
      subst this; rw [ftl_nil]; exact fin_one x hx
    | succ k ih =>
      intro t ht x hx
      by_cases h0 : t.length = 0
      · have : t = [] := List.eq_nil_of_length_eq_zero h0
        subst this; rw [ftl_nil]; exact fin_one x hx
      · rw [ftl_more t (by omega), fin_cons x _ (by simp), ih (t.drop 74) (by rw [List.length_drop]; omega) _ (by simp)]
  unfold fpc
  refine hl _ _ (Nat.le_refl _) _ ?_
  cases s with
  | nil => exact absurd rfl h
  | cons c t => simp
theorem unfold_fold (s : Tx) (h0 : s ≠ []) (h1 : s.head? ≠ some 32) (h2 : (13 : UInt8) ∉ s) : unfoldE (foldE s) = [s] := by
  unfold unfoldE linesE
  rw [split_fold_end s h2, fin_fpc s h0]
  have := lines_fpc s [] [] h1
  rw [List.append_nil] at this
  rw [this]; rfl
theorem unfold_none : unfoldE [] = [] := by
  unfold unfoldE
  rw [split_free [] (by simp), fin_none]; rfl

/-! ### no folded line is too long -/
def chk : Nat → Tx → Bool
  | _, [] => true
  | col, c :: t => if c = 10 then chk 0 t else if 75 ≤ col ∧ c ≠ 13 then false else chk (col + 1) t
theorem chk_run (r : Tx) : ∀ (p : Tx) (col : Nat), (10 : UInt8) ∉ p → col + p.length ≤ 75 → chk col (p ++ r) = chk (col + p.length) r
  | [], col, _, _ => rfl
  | c :: t, col, h, hk => by
    have hc : c ≠ 10 := fun e => h (e ▸ List.mem_cons_self)
    simp only [List.length_cons] at hk
    rw [List.cons_append, chk, if_neg hc, if_neg (by omega), chk_run r t (col + 1) (fun g => h (List.mem_cons_of_mem _ g)) (by omega), List.length_cons]
    congr 1; omega
theorem chk_sep (col : Nat) (r : Tx) : chk col (sepE ++ r) = chk 1 r := by
  show chk col (13 :: 10 :: 32 :: r) = _
  rw [chk, if_neg (by decide), if_neg (by simp), chk, if_pos rfl, chk, if_neg (by decide), if_neg (by omega)]
theorem chk_tl : ∀ (k : Nat) (s : Tx) (col : Nat), s.length ≤ k → (10 : UInt8) ∉ s → chk col (tlE s) = true
  | 0, s, col, hk, _ => by
    have : s = [] := List.eq_nil_of_length_eq_zero (by omega)
    subst this; rw [tlE_nil]; rfl
  | k + 1, s, col, hk, h => by
    by_cases h0 : s.length = 0
    · have : s = [] := List.eq_nil_of_length_eq_zero h0
      subst this; rw [tlE_nil]; rfl
    · rw [tlE_more s (by omega), chk_sep, chk_run _ _ 1 (not_take h 74) (by rw [List.length_take]; omega), chk_tl k _ _ (by rw [List.length_drop]; omega) (not_drop h 74)]
theorem chk_fold (s : Tx) (h : (10 : UInt8) ∉ s) : chk 0 (foldE s) = true := by
  unfold foldE
  rw [chk_run _ _ 0 (not_take h 75) (by rw [List.length_take]; omega), chk_tl _ _ _ (Nat.le_refl _) (not_drop h 75)]

/-! ### a text cut at its lines' ends -/
def pat : Nat → Tx
  | 0 => []
  | k + 1 => pat k ++ ((if k % 2 = 1 then [10] else []) ++ [120])
theorem pat_free : ∀ k, (13 : UInt8) ∉ pat k
  | 0 => by simp [pat]
  | k + 1 => by
    have := pat_free k
    unfold pat
    intro g
    rcases List.mem_append.1 g with g | g
    · exact this g
    · split at g <;> revert g <;> decide
theorem pat_blank : ∀ k, (32 : UInt8) ∉ pat k
  | 0 => by simp [pat]
  | k + 1 => by
    have := pat_blank k
    unfold pat
    intro g
    rcases List.mem_append.1 g with g | g
    · exact this g
    · split at g <;> revert g <;> decide
theorem pat_head (k : Nat) : (pat k).head? ≠ some 32 := fun h => pat_blank k (List.mem_of_mem_head? h)
theorem pat_len : ∀ k, (pat k).length ≤ 2 * k
  | 0 => by simp [pat]
  | k + 1 => by
    have := pat_len k
    unfold pat
    rw [List.length_append]
    split <;> simp <;> omega
theorem pat_empty (k : Nat) : pat k = [] ↔ k = 0 := by
  cases k with
  | zero => simp [pat]
  | succ k => simp [pat]
/-- pieces with a line's end between them. -/
def cat : List Tx → Tx
  | [] => []
  | [p] => p
  | p :: q :: r => p ++ crlf ++ cat (q :: r)
theorem cat_snoc (x : Tx) : ∀ l : List Tx, l ≠ [] → cat (l ++ [x]) = cat l ++ crlf ++ x
  | [], h => absurd rfl h
  | [p], _ => by simp [cat]
  | p :: q :: r, _ => by
    have ih := cat_snoc x (q :: r) (by simp)
    show p ++ crlf ++ cat ((q :: r) ++ [x]) = _
    rw [ih]; simp [cat]
theorem split_cat : ∀ l : List Tx, l ≠ [] → (∀ s ∈ l, (13 : UInt8) ∉ s) → Lib.split (cat l) crlf = l
  | [], h, _ => absurd rfl h
  | [p], _, h => split_free p (h p (by simp))
  | p :: q :: r, _, h => by
    rw [cat, split_app p _ (h p (by simp)), split_cat (q :: r) (by simp) fun x hx => h x (List.mem_cons_of_mem _ hx)]
theorem split_cat_end : ∀ l : List Tx, l ≠ [] → (∀ s ∈ l, (13 : UInt8) ∉ s) → Lib.split (cat l ++ crlf) crlf = l ++ [[]]
  | [], h, _ => absurd rfl h
  | [p], _, h => by
    have := split_app p [] (h p (by simp))
    rw [List.append_nil] at this
    rw [cat, this, split_free [] (by simp)]; rfl
  | p :: q :: r, _, h => by
    rw [cat, List.append_assoc, split_app p _ (h p (by simp)), split_cat_end (q :: r) (by simp) fun x hx => h x (List.mem_cons_of_mem _ hx)]; rfl
theorem lines_plain : ∀ (l out : List Tx), (∀ s ∈ l, s.head? ≠ some 32) → l.foldl snoc out = out ++ l
  | [], out, _ => by simp
  | s :: l, out, h => by
    rw [List.foldl_cons, snoc_new out s (h s (by simp)), lines_plain l _ fun x hx => h x (List.mem_cons_of_mem _ hx)]; simp
theorem fin_sub (l : List Tx) : ∀ s ∈ fin l, s ∈ l := fun s hs => by
  unfold fin at hs
  split at hs
  · exact List.dropLast_subset _ hs
  · exact hs
/-- so many lines there are. -/
theorem unfold_cat (l : List Tx) (h : l ≠ []) (h1 : ∀ s ∈ l, (13 : UInt8) ∉ s ∧ s.head? ≠ some 32) : (unfoldE (cat l)).length = if l.getLast? = some [] then l.length - 1 else l.length := by
  unfold unfoldE linesE
  rw [split_cat l h fun s hs => (h1 s hs).1, lines_plain _ [] fun s hs => (h1 s (fin_sub l s hs)).2, List.nil_append, fin]
  split <;> simp
theorem unfold_cat_end (l : List Tx) (h : l ≠ []) (h1 : ∀ s ∈ l, (13 : UInt8) ∉ s ∧ s.head? ≠ some 32) : (unfoldE (cat l ++ crlf)).length = l.length := by
  unfold unfoldE linesE
  rw [split_cat_end l h fun s hs => (h1 s hs).1, fin_snoc, lines_plain _ [] fun s hs => (h1 s hs).2, List.nil_append]

end Go.Proofs.YtpicfpadednnoaaDoor.Fo

/- More plain facts of folding: lines as groups of pieces; how long pieces are; a text cut at a mark. -/
import Derived.Test.YtojhajlhbhkddaaFoMath
import Derived.Lib.SplitLaws
namespace Go.Proofs.Ytojhajlhbhkddaa.Fo
open Go.Proofs.Ytojhajlhbhkddaa Rul Rt

/-! ### lines as groups of pieces -/
def goesOn (p : Tx) : Bool := p.head? == some 32
def tls (l : List Tx) : Tx := (l.map List.tail).flatten
theorem tls_nil : tls [] = [] := rfl
theorem tls_cons (p : Tx) (l : List Tx) : tls (p :: l) = p.tail ++ tls l := by simp [tls]
theorem tls_snoc (l : List Tx) (p : Tx) : tls (l ++ [p]) = tls l ++ p.tail := by simp [tls]
def grp : List Tx → List Tx
  | [] => []
  | p :: r => (p ++ tls (r.takeWhile goesOn)) :: grp (r.dropWhile goesOn)
 termination_by l => l.length
 decreasing_by
  have := (List.dropWhile_suffix goesOn (l := r)).length_le
  simp only [List.length_cons]; omega
theorem grp_nil : grp [] = [] := by rw [grp]
theorem grp_cons (p : Tx) (r : List Tx) : grp (p :: r) = (p ++ tls (r.takeWhile goesOn)) :: grp (r.dropWhile goesOn) := by rw [grp]
theorem goesOn_iff (p : Tx) : goesOn p = true ↔ p.head? = some 32 := by unfold goesOn; exact beq_iff_eq
theorem goesOn_form {p : Tx} (h : goesOn p = true) : p = 32 :: p.tail := by
  rw [goesOn_iff] at h
  cases p with
  | nil => simp at h
  | cons c t => simp at h; subst h; rfl
theorem fold_on (out : List Tx) : ∀ (r : List Tx) (x : Tx), r.foldl snoc (out ++ [x]) = (r.dropWhile goesOn).foldl snoc (out ++ [x ++ tls (r.takeWhile goesOn)])
  | [], x => by simp [tls]
  | p :: r, x => by
    cases hp : goesOn p with
    | false => rw [List.dropWhile_cons_of_neg (by simp [hp]), List.takeWhile_cons_of_neg (by simp [hp]), tls_nil, List.append_nil]
    | true =>
      rw [List.dropWhile_cons_of_pos hp, List.takeWhile_cons_of_pos hp, tls_cons, ← List.append_assoc, ← fold_on out r (x ++ p.tail)]
      rw [List.foldl_cons]
      congr 1
      have e := goesOn_form hp
      rw [e, snoc_on]; rfl
theorem drop_head {r : List Tx} {p : Tx} {q : List Tx} (h : r.dropWhile goesOn = p :: q) : goesOn p = false := by
  induction r with
  | nil => simp at h
  | cons a r ih =>
    cases ha : goesOn a with
    | true => rw [List.dropWhile_cons_of_pos ha] at h; exact ih h
    | false => rw [List.dropWhile_cons_of_neg (by simp [ha])] at h; injection h with h1 h2; rw [← h1]; exact ha
theorem fold_grp : ∀ (n : Nat) (ps out : List Tx), ps.length ≤ n → (out = [] ∨ ∀ p q, ps = p :: q → goesOn p = false) → ps.foldl snoc out = out ++ grp ps
  | _, [], out, _, _ => by rw [grp_nil, List.append_nil]; rfl
  | 0, p :: r, out, h, _ => by simp at h
  | n + 1, p :: r, out, h, ho => by
    have e : snoc out p = out ++ [p] := by
      rcases ho with rfl | ho
      · exact snoc_nil p
      · exact snoc_new out p (by have := ho p r rfl; rw [← Bool.not_eq_true, goesOn_iff] at this; exact this)
    rw [List.foldl_cons, e, fold_on, grp_cons]
    rw [fold_grp n (r.dropWhile goesOn) _ (by have := (List.dropWhile_suffix goesOn (l := r)).length_le; simp at h; omega) (Or.inr fun p q h => drop_head h)]
    simp
theorem lines_grp (ps : List Tx) : linesE ps = grp ps := by
  unfold linesE
  rw [fold_grp _ ps [] (Nat.le_refl _) (Or.inl rfl)]; rfl
theorem take_on : ∀ (r : List Tx) (k : Nat), k ≤ r.length → (∀ i (h : i < r.length), i < k → goesOn r[i] = true) → (∀ h : k < r.length, goesOn r[k] = false) → r.takeWhile goesOn = r.take k ∧ r.dropWhile goesOn = r.drop k
  | [], k, hk, _, _ => by simp
  | p :: r, 0, _, _, h2 => by
    have := h2 (by simp)
    simp only [List.getElem_cons_zero] at this
    rw [List.takeWhile_cons_of_neg (by simp [this]), List.dropWhile_cons_of_neg (by simp [this])]; simp
  | p :: r, k + 1, hk, h1, h2 => by
    have hp : goesOn p = true := h1 0 (by simp) (by omega)
    obtain ⟨e1, e2⟩ := take_on r k (by simpa using hk) (fun i hi hik => by have := h1 (i + 1) (by simpa using hi) (by omega); simpa using this) (fun h => by have := h2 (by simpa using h); simpa using this)
    rw [List.takeWhile_cons_of_pos hp, List.dropWhile_cons_of_pos hp, e1, e2]; simp
/-- one line more. -/
theorem grp_at (ps : List Tx) (j k : Nat) (hj : j < ps.length) (hjk : j < k) (hk : k ≤ ps.length) (h1 : ∀ i (h : i < ps.length), j < i → i < k → goesOn ps[i] = true) (h2 : ∀ h : k < ps.length, goesOn ps[k] = false) :
    grp (ps.drop j) = (ps[j] ++ tls ((ps.take k).drop (j + 1))) :: grp (ps.drop k) := by
  rw [List.drop_eq_getElem_cons hj, grp_cons]
  obtain ⟨e1, e2⟩ := take_on (ps.drop (j + 1)) (k - (j + 1)) (by rw [List.length_drop]; omega) (fun i hi hik => by
    rw [List.length_drop] at hi
    rw [List.getElem_drop]
    exact h1 _ _ (by omega) (by omega)) (fun h => by
    rw [List.length_drop] at h
    rw [List.getElem_drop]
    have e : j + 1 + (k - (j + 1)) = k := by omega
    simp only [e]
    exact h2 (by omega))
  rw [e1, e2, List.drop_drop, List.drop_take]
  have e : j + 1 + (k - (j + 1)) = k := by omega
  rw [e]

/-! ### how long pieces are -/
theorem splitK_flat (sep : Tx) : ∀ (k : Nat) (s : Tx), (Lib.splitK sep 0 k s).flatten.length ≤ s.length
  | 0, s => by simp [Lib.splitK]
  | k + 1, s => by
    rw [Lib.splitK]
    split
    · simp
    · have := splitK_flat sep k (s.drop ((Lib.index s sep).toNat + sep.length))
      rw [List.length_drop] at this
      simp only [List.flatten_cons, List.length_append, List.length_take]
      omega
theorem split_flat_len (s : Tx) : (Lib.split s crlf).flatten.length ≤ s.length := splitK_flat _ _ _
theorem flat_at : ∀ (l : List Tx) (p : Tx), p ∈ l → p.length ≤ l.flatten.length
  | [], p, h => by cases h
  | q :: l, p, h => by
    simp only [List.flatten_cons, List.length_append]
    rcases List.mem_cons.1 h with rfl | h
    · omega
    · have := flat_at l p h; omega
theorem flat_drop (l : List Tx) (k : Nat) : (l.drop k).flatten.length ≤ l.flatten.length := by
  have : l.flatten = (l.take k).flatten ++ (l.drop k).flatten := by rw [← List.flatten_append, List.take_append_drop]
  rw [this, List.length_append]; omega
theorem flat_take (l : List Tx) (k : Nat) : (l.take k).flatten.length ≤ l.flatten.length := by
  have : l.flatten = (l.take k).flatten ++ (l.drop k).flatten := by rw [← List.flatten_append, List.take_append_drop]
  rw [this, List.length_append]; omega
theorem tls_len : ∀ l : List Tx, (tls l).length ≤ l.flatten.length
  | [] => by simp [tls]
  | p :: l => by
    have := tls_len l
    rw [tls_cons]
    simp only [List.length_append, List.length_tail, List.flatten_cons]; omega
theorem splitK_count (sep : Tx) : ∀ (k : Nat) (s : Tx), (Lib.splitK sep 0 k s).length ≤ k + 1
  | 0, s => by simp [Lib.splitK]
  | k + 1, s => by
    rw [Lib.splitK]
    split
    · simp
    · have := splitK_count sep k (s.drop ((Lib.index s sep).toNat + sep.length))
      simp only [List.length_cons]; omega
theorem fin_flat (l : List Tx) : (fin l).flatten.length ≤ l.flatten.length := by
  unfold fin
  split
  · rw [List.dropLast_eq_take]; exact flat_take l _
  · exact Nat.le_refl _
theorem fin_len (l : List Tx) : (fin l).length ≤ l.length := by
  unfold fin
  split
  · rw [List.length_dropLast]; omega
  · exact Nat.le_refl _
theorem grp_len : ∀ (n : Nat) (l : List Tx), l.length ≤ n → (grp l).length ≤ l.length
  | _, [], _ => by rw [grp_nil]; exact Nat.le_refl _
  | 0, p :: r, h => by simp at h
  | n + 1, p :: r, h => by
    have h1 := (List.dropWhile_suffix goesOn (l := r)).length_le
    have := grp_len n (r.dropWhile goesOn) (by simp at h; omega)
    rw [grp_cons]; simp only [List.length_cons]; omega
theorem drop_flat_len : ∀ (n : Nat) (l : List Tx), l.length ≤ n → (grp l).flatten.length ≤ l.flatten.length
  | _, [], _ => by rw [grp_nil]; exact Nat.le_refl _
  | 0, p :: r, h => by simp at h
  | n + 1, p :: r, h => by
    have h1 := (List.dropWhile_suffix goesOn (l := r)).length_le
    have := drop_flat_len n (r.dropWhile goesOn) (by simp at h; omega)
    have h2 := tls_len (r.takeWhile goesOn)
    have e : r.flatten = (r.takeWhile goesOn).flatten ++ (r.dropWhile goesOn).flatten := by rw [← List.flatten_append, List.takeWhile_append_dropWhile]
    rw [grp_cons]
    simp only [List.flatten_cons, List.length_append]
    rw [e, List.length_append]; omega

/-! ### a text cut at a mark -/
theorem index_mark : ∀ s : Tx, Lib.index s [92] = -1 ∧ 92 ∉ s ∨ ∃ i : Nat, Lib.index s [92] = (i : Int) ∧ i < s.length ∧ 92 ∉ s.take i ∧ s = s.take i ++ 92 :: s.drop (i + 1) := fun s => by
  rcases Lib.index_spec s [92] with ⟨h1, h2⟩ | ⟨i, h1, h2, h3, h4⟩
  · left
    refine ⟨h1, fun hm => ?_⟩
    obtain ⟨j, hj, e⟩ := List.mem_iff_getElem.1 hm
    have := h2 j (by omega)
    unfold Lib.occAt at this
    rw [List.drop_eq_getElem_cons hj, e] at this
    simp at this
  · right
    have hlt : i < s.length := by
      unfold Lib.occAt at h3
      rcases Nat.lt_or_ge i s.length with g | g
      · exact g
      · rw [List.drop_eq_nil_of_le g] at h3; simp at h3
    have hc : s[i] = 92 := by
      unfold Lib.occAt at h3
      rw [List.drop_eq_getElem_cons hlt] at h3
      simp [List.isPrefixOf] at h3
      exact h3.symm
    refine ⟨i, h1, hlt, fun hm => ?_, ?_⟩
    · obtain ⟨j, hj, e⟩ := List.mem_iff_getElem.1 hm
      rw [List.length_take] at hj
      rw [List.getElem_take] at e
      have := h4 j (by omega)
      unfold Lib.occAt at this
      rw [List.drop_eq_getElem_cons (by omega), e] at this
      simp at this
    · have : s.take i ++ s.drop i = s := List.take_append_drop i s
      rw [List.drop_eq_getElem_cons hlt, hc] at this
      exact this.symm

/-- what Unescape answers. -/
theorem unE_next {S s E p r : Tx} {b d : UInt8} (h : unE S = (unE s).map (E ++ ·)) (hs : s = p ++ 92 :: d :: r) (hp : 92 ∉ p) (hb : p.any bad = false) (hm : mean d = some b) : unE S = (unE r).map (((E ++ p) ++ [b]) ++ ·) := by
  rw [h, hs, unE_run _ p hp, hb, unE_mark, hm]
  cases unE r <;> simp
theorem unE_stop {S s E p t : Tx} (h : unE S = (unE s).map (E ++ ·)) (hs : s = p ++ t) (hp : 92 ∉ p) (hb : p.any bad = true) : unE S = none := by
  rw [h, hs, unE_run _ p hp, hb]; rfl
theorem unE_done {S s E : Tx} (h : unE S = (unE s).map (E ++ ·)) (hp : 92 ∉ s) (hb : s.any bad = false) : unE S = some (E ++ s) := by
  rw [h, unE_end s hp, hb]; rfl
theorem unE_odd {S s E p t : Tx} (h : unE S = (unE s).map (E ++ ·)) (hs : s = p ++ 92 :: t) (hp : 92 ∉ p) (hb : p.any bad = false) (ht : t = [] ∨ ∃ d u, t = d :: u ∧ mean d = none) : unE S = none := by
  rw [h, hs, unE_run _ p hp, hb]
  rcases ht with rfl | ⟨d, u, rfl, hm⟩
  · rfl
  · rw [unE_mark, hm]; rfl

end Go.Proofs.Ytojhajlhbhkddaa.Fo

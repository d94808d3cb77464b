/- The document's Unfold, byte by byte: what holds ahead of each byte. No word of a program. -/
import Derived.Test.YtpicfpadednnoaaDoorFoMathB
namespace Go.Proofs.YtpicfpadednnoaaDoor.Fo
open Go.Proofs.YtpicfpadednnoaaDoor Rul Rt

def UInv (S : Tx) (j k : Nat) (out : List Tx) : Prop :=
  j ≤ S.length ∧ k ≤ j ∧ ∃ done, Lib.split S crlf = done ++ Lib.split (S.drop k) crlf ∧ out = linesE done ∧ Lib.NoOcc (S.drop k) crlf (j - k)
theorem occ_drop (S : Tx) (k i : Nat) : Lib.occAt (S.drop k) crlf i = Lib.occAt S crlf (k + i) := by
  unfold Lib.occAt; rw [List.drop_drop]
theorem uinv_start (S : Tx) : UInv S 0 0 [] := ⟨Nat.zero_le _, Nat.le_refl _, [], by simp, rfl, Lib.NoOcc.zero _ _⟩
theorem uinv_skip {S : Tx} {j k : Nat} {out : List Tx} (h : UInv S j k out) (hj : j < S.length) (ho : Lib.occAt S crlf j = false) : UInv S (j + 1) k out := by
  obtain ⟨h1, h2, done, h3, h4, h5⟩ := h
  refine ⟨hj, by omega, done, h3, h4, ?_⟩
  have e : j + 1 - k = (j - k) + 1 := by omega
  rw [e]
  refine h5.succ ?_
  rw [occ_drop]
  have e2 : k + (j - k) = j := by omega
  rw [e2]; exact ho
theorem uinv_cut {S : Tx} {j k : Nat} {out : List Tx} (h : UInv S j k out) (hj : j + 2 ≤ S.length) (ho : Lib.occAt S crlf j = true) : UInv S (j + 2) (j + 2) (snoc out ((S.take j).drop k)) := by
  obtain ⟨h1, h2, done, h3, h4, h5⟩ := h
  have e2 : k + (j - k) = j := by omega
  have hs := split_hit (S.drop k) (j - k) h5 (by rw [List.length_drop]; omega) (by rw [occ_drop, e2]; exact ho)
  refine ⟨hj, Nat.le_refl _, done ++ [(S.take j).drop k], ?_, ?_, ?_⟩
  · rw [h3, hs, List.drop_drop, List.drop_take, show k + (j - k + 2) = j + 2 by omega]; simp
  · rw [h4]; unfold linesE; rw [List.foldl_append]; rfl
  · rw [Nat.sub_self]; exact Lib.NoOcc.zero _ _
theorem uinv_split {S : Tx} {k : Nat} {out : List Tx} (h : UInv S S.length k out) : ∃ done, Lib.split S crlf = done ++ [S.drop k] ∧ out = linesE done := by
  obtain ⟨h1, h2, done, h3, h4, h5⟩ := h
  refine ⟨done, ?_, h4⟩
  rw [h3, split_miss (S.drop k) (by rw [List.length_drop]; exact h5)]
theorem uinv_end_none {S : Tx} {k : Nat} {out : List Tx} (h : UInv S S.length k out) (hp : S.drop k = []) : unfoldE S = out := by
  obtain ⟨done, h1, h2⟩ := uinv_split h
  unfold unfoldE
  rw [h1, hp, fin_snoc, h2]
theorem uinv_end_some {S : Tx} {k : Nat} {out : List Tx} (h : UInv S S.length k out) (hp : S.drop k ≠ []) : unfoldE S = snoc out (S.drop k) := by
  obtain ⟨done, h1, h2⟩ := uinv_split h
  unfold unfoldE
  rw [h1, fin_keep done _ hp, h2]
  unfold linesE
  rw [List.foldl_append]; rfl
theorem occC_yes {S r : Tx} {j : Nat} (h : S.drop j = 13 :: 10 :: r) : Lib.occAt S crlf j = true := by
  unfold Lib.occAt; rw [h]; simp [crlf]
theorem occ_no1 {S r : Tx} {j : Nat} {c : UInt8} (h : S.drop j = c :: r) (hc : c ≠ 13) : Lib.occAt S crlf j = false := by
  unfold Lib.occAt; rw [h]
  show List.isPrefixOf (13 :: [10]) (c :: r) = false
  rw [List.isPrefixOf, Bool.and_eq_false_iff]; left; exact beq_eq_false_iff_ne.2 (Ne.symm hc)
theorem occ_no2 {S : Tx} {j : Nat} (h : S.length ≤ j + 1) : Lib.occAt S crlf j = false := by
  unfold Lib.occAt
  have hl : (S.drop j).length ≤ 1 := by rw [List.length_drop]; omega
  generalize S.drop j = t at *
  match t, hl with
  | [], _ => rfl
  | [c], _ =>
    show List.isPrefixOf (13 :: [10]) (c :: []) = false
    rw [List.isPrefixOf, Bool.and_eq_false_iff]; right; rfl
  | _ :: _ :: _, hl => simp at hl
theorem occ_no3 {S r : Tx} {j : Nat} {c d : UInt8} (h : S.drop j = c :: d :: r) (hd : d ≠ 10) : Lib.occAt S crlf j = false := by
  unfold Lib.occAt; rw [h]
  show List.isPrefixOf (13 :: 10 :: []) (c :: d :: r) = false
  rw [List.isPrefixOf, List.isPrefixOf, Bool.and_eq_false_iff]; right
  rw [Bool.and_eq_false_iff]; left; exact beq_eq_false_iff_ne.2 (Ne.symm hd)
theorem linesE_bounds (done : List Tx) : (linesE done).length ≤ done.length ∧ ∀ x ∈ linesE done, x.length ≤ done.flatten.length := by
  rw [lines_grp]
  refine ⟨grp_len _ done (Nat.le_refl _), fun x hx => ?_⟩
  exact Nat.le_trans (flat_at _ x hx) (drop_flat_len _ done (Nat.le_refl _))
theorem uinv_bounds {S : Tx} {j k : Nat} {out : List Tx} (h : UInv S j k out) : out.length ≤ (Lib.split S crlf).length ∧ ∀ x ∈ out, x.length ≤ S.length := by
  obtain ⟨h1, h2, done, h3, h4, h5⟩ := h
  obtain ⟨g1, g2⟩ := linesE_bounds done
  have g3 := split_flat_len S
  rw [h3, List.flatten_append, List.length_append] at g3
  refine ⟨?_, fun x hx => ?_⟩
  · rw [h4, h3, List.length_append]; omega
  · rw [h4] at hx
    exact Nat.le_trans (g2 x hx) (by omega)
theorem snoc_plain (out : List Tx) (p : Tx) (h : out = [] ∨ p.head? ≠ some 32) : snoc out p = out ++ [p] := by
  rcases h with rfl | h
  · rw [snoc_nil]; rfl
  · exact snoc_new out p h

end Go.Proofs.YtpicfpadednnoaaDoor.Fo

/- Plain facts of deeds: what makes a deed none; the claims of statement DeedClaims; numbers in order. No program is named here. -/
import Derived.Test.YtocnobgdlgndjaaGreatDeMath
namespace Go.Proofs.YtocnobgdlgndjaaGreat.De
open Go.Proofs.YtocnobgdlgndjaaGreat Rul Cl Spn

theorem five {k : Int} {P : Prop} (h1 : k = 1 ∨ k = 2 → P) (h3 : ¬ (k = 1 ∨ k = 2) → k = 3 ∨ k = 4 → P) (h5 : ¬ (k = 1 ∨ k = 2) → ¬ (k = 3 ∨ k = 4) → k = 5 ∨ k = 6 → P) (h7 : ¬ (k = 1 ∨ k = 2) → ¬ (k = 3 ∨ k = 4) → ¬ (k = 5 ∨ k = 6) → k = 7 → P) (h8 : ¬ (k = 1 ∨ k = 2) → ¬ (k = 3 ∨ k = 4) → ¬ (k = 5 ∨ k = 6) → ¬ k = 7 → P) : P := by
  by_cases q1 : k = 1 ∨ k = 2
  · exact h1 q1
  by_cases q3 : k = 3 ∨ k = 4
  · exact h3 q1 q3
  by_cases q5 : k = 5 ∨ k = 6
  · exact h5 q1 q3 q5
  by_cases q7 : k = 7
  · exact h7 q1 q3 q5 q7
  · exact h8 q1 q3 q5 q7
theorem ask8 {d : D} (h : De.ask d = true) (n1 : ¬ (d.kd = 1 ∨ d.kd = 2)) (n3 : ¬ (d.kd = 3 ∨ d.kd = 4)) (n5 : ¬ (d.kd = 5 ∨ d.kd = 6)) (n7 : ¬ d.kd = 7) : d.kd = 8 ∧ peB d.pe = true ∧ seqB d.n = true ∧ bkB d.b = true := by
  unfold De.ask at h
  rw [if_neg n1, if_neg n3, if_neg n5, if_neg n7] at h
  by_cases q : d.kd = 8
  · rw [if_pos q] at h
    simp only [Bool.and_eq_true] at h
    exact ⟨q, h.1, h.2.1, h.2.2.1⟩
  · rw [if_neg q] at h; cases h
theorem isD_id {d : D} (h : isD d = true) : idB d.id = true ∨ d.id = (0, 0) := by
  have e := congrArg D.id (isD_bare h)
  have a := isD_ask h
  unfold bare at e
  unfold De.ask at a
  refine five (k := d.kd) (fun q => ?_) (fun n1 q => ?_) (fun n1 n3 q => ?_) (fun n1 n3 n5 q => ?_) (fun n1 n3 n5 n7 => ?_)
  · rw [if_pos q, Bool.and_eq_true] at a; exact .inl a.1
  · rw [if_neg n1, if_pos q] at a; exact .inl a
  · rw [if_neg n1, if_neg n3, if_pos q] at e; exact .inr e
  · rw [if_neg n1, if_neg n3, if_neg n5, if_pos q] at e; exact .inr e
  · rw [if_neg n1, if_neg n3, if_neg n5, if_neg n7] at e; exact .inr e
theorem isD_n {d : D} (h : isD d = true) : seqB d.n = true ∨ d.n = 0 := by
  have e := congrArg D.n (isD_bare h)
  have a := isD_ask h
  unfold bare at e
  refine five (k := d.kd) (fun q => ?_) (fun n1 q => ?_) (fun n1 n3 q => ?_) (fun n1 n3 n5 q => ?_) (fun n1 n3 n5 n7 => ?_)
  · rw [if_pos q] at e; exact .inr e
  · rw [if_neg n1, if_pos q] at e; exact .inr e
  · unfold De.ask at a; rw [if_neg n1, if_neg n3, if_pos q] at a; simp only [Bool.and_eq_true] at a; exact .inl a.2.2
  · unfold De.ask at a; rw [if_neg n1, if_neg n3, if_neg n5, if_pos q] at a; simp only [Bool.and_eq_true] at a; exact .inl a.2
  · exact .inl (ask8 a n1 n3 n5 n7).2.2.1
theorem isD_pe {d : D} (h : isD d = true) : peB d.pe = true ∨ d.pe = 0 := by
  have e := congrArg D.pe (isD_bare h)
  have a := isD_ask h
  unfold bare at e
  refine five (k := d.kd) (fun q => ?_) (fun n1 q => ?_) (fun n1 n3 q => ?_) (fun n1 n3 n5 q => ?_) (fun n1 n3 n5 n7 => ?_)
  · rw [if_pos q] at e; exact .inr e
  · rw [if_neg n1, if_pos q] at e; exact .inr e
  · unfold De.ask at a; rw [if_neg n1, if_neg n3, if_pos q] at a; simp only [Bool.and_eq_true] at a; exact .inl a.2.1
  · unfold De.ask at a; rw [if_neg n1, if_neg n3, if_neg n5, if_pos q] at a; simp only [Bool.and_eq_true] at a; exact .inl a.1
  · exact .inl (ask8 a n1 n3 n5 n7).2.1
theorem isD_bk {d : D} (h : isD d = true) : bkB d.b = true ∨ d.b = b0 := by
  have e := congrArg D.b (isD_bare h)
  have a := isD_ask h
  unfold bare at e
  refine five (k := d.kd) (fun q => ?_) (fun n1 q => ?_) (fun n1 n3 q => ?_) (fun n1 n3 n5 q => ?_) (fun n1 n3 n5 n7 => ?_)
  · rw [if_pos q] at e; exact .inr e
  · rw [if_neg n1, if_pos q] at e; exact .inr e
  · rw [if_neg n1, if_neg n3, if_pos q] at e; exact .inr e
  · rw [if_neg n1, if_neg n3, if_neg n5, if_pos q] at e; exact .inr e
  · exact .inl (ask8 a n1 n3 n5 n7).2.2.2
theorem isD_cl {d : D} (h : isD d = true) : neatB d.cl = true ∨ d.cl = [] := by
  have e := congrArg D.cl (isD_bare h)
  have a := isD_ask h
  unfold bare at e
  refine five (k := d.kd) (fun q => ?_) (fun n1 q => ?_) (fun n1 n3 q => ?_) (fun n1 n3 n5 q => ?_) (fun n1 n3 n5 n7 => ?_)
  · rw [if_pos q] at e; exact .inr e
  · rw [if_neg n1, if_pos q] at e; exact .inr e
  · unfold De.ask at a; rw [if_neg n1, if_neg n3, if_pos q] at a; simp only [Bool.and_eq_true] at a; exact .inl a.1
  · rw [if_neg n1, if_neg n3, if_neg n5, if_pos q] at e; exact .inr e
  · rw [if_neg n1, if_neg n3, if_neg n5, if_neg n7] at e; exact .inr e
theorem neatB_ok {l : List C} (h : neatB l = true) : l = neatC l ∧ l.length ≤ 160 ∧ 0 < l.length := by
  unfold neatB at h; simp only [Bool.and_eq_true, decide_eq_true_eq] at h; exact ⟨h.2.2, h.2.1, h.1⟩
theorem spo0 (d : D) : isD { d with kd := 9 } = false := by
  unfold isD De.ask; rfl
theorem spo1 (d : D) : isD { d with id := (d.id.1, 4) } = false := isD_no fun h => by
  rcases isD_id h with q | q
  · unfold idB peB at q; simp at q
  · have := congrArg Prod.snd q; simp at this
theorem spo2 (d : D) : isD { d with n := 1000001 } = false := isD_no fun h => by
  rcases isD_n h with q | q
  · exact absurd q (by show ¬ seqB 1000001 = true; decide)
  · exact absurd q (by show ¬ (1000001 : Int) = 0; decide)
theorem spo3 (d : D) : isD { d with pe := -1 } = false := isD_no fun h => by
  rcases isD_pe h with q | q
  · exact absurd q (by show ¬ peB (-1) = true; decide)
  · exact absurd q (by show ¬ (-1 : Int) = 0; decide)
theorem spo4 (d : D) : isD { d with b := { d.b with st := 1 } } = false := isD_no fun h => by
  rcases isD_bk h with q | q
  · unfold bkB at q; simp only [Bool.and_eq_true] at q; exact absurd q.2.2 (by show ¬ stB 1 = true; decide)
  · have := congrArg B.st q; exact absurd this (by show ¬ (1 : Int) = 0; decide)
theorem spo5 (d : D) : isD { d with cl := d.cl ++ [(-1, (0, 0))] } = false := isD_no fun h => by
  rcases isD_cl h with q | q
  · have e := (neatB_ok q).1
    have m : ((-1, (0, 0)) : C) ∈ neatC (d.cl ++ [(-1, (0, 0))]) := by
      rw [← show d.cl ++ [(-1, (0, 0))] = neatC (d.cl ++ [(-1, (0, 0))]) from e]; simp
    obtain ⟨r, _, hr, _⟩ := (outC_mem _ _).1 m
    simp only at hr
    omega
  · simp at q
/-- numbers in order. -/
theorem befB_iff (a b : Nm) : befB a b = true ↔ a.1 < b.1 ∨ (a.1 = b.1 ∧ a.2 < b.2) := by unfold befB; simp
theorem bef_not (a b : Nm) : (befB a b && befB b a) = false := by
  rw [Bool.eq_false_iff]; intro h; rw [Bool.and_eq_true, befB_iff, befB_iff] at h; omega
theorem bef_some (s t q u : Int) : (befB (s, t) (q, u) || befB (q, u) (s, t)) = !((s == q) && (t == u)) := by
  rw [Bool.eq_iff_iff, Bool.or_eq_true, befB_iff, befB_iff, Bool.not_eq_true', ← Bool.not_eq_true, Bool.and_eq_true, beq_iff_eq, beq_iff_eq]
  simp only
  omega
theorem bef_trans {a b c : Nm} (h : befB a b = true) (k : befB b c = true) : befB a c = true := by
  rw [befB_iff] at *; omega
theorem bef_seq (a b : Nm) : (decide (b.1 ≤ a.1) || befB a b) = true := by
  rw [Bool.or_eq_true, befB_iff, decide_eq_true_eq]; omega
theorem bef_self (a : Nm) : befB a a = false := by rw [Bool.eq_false_iff]; intro h; rw [befB_iff] at h; omega
/-- the claims of statement DeedClaims. -/
def clK (i : Nat) : C := (((i / 100 : Nat) : Int), (((10 * (i % 100) : Nat) : Int), ((10 * (i % 100) + 5 : Nat) : Int)))
def lK (k : Nat) : List C := (List.range k).map clK
theorem lK_len (k : Nat) : (lK k).length = k := by simp [lK]
theorem lK_succ (k : Nat) : lK (k + 1) = lK k ++ [clK k] := by unfold lK; rw [List.range_succ, List.map_append]; rfl
theorem lK_get (k i : Nat) (h : i < (lK k).length) : (lK k)[i] = clK i := by simp [lK]
theorem neat_159 : neatC (lK 159) = lK 159 := by decide +kernel
theorem neat_160 : neatC (lK 160) = lK 160 := by decide +kernel
theorem lK_neat (k : Nat) (h : k = 159 ∨ k = 160 ∨ k = 161) : neatB (lK k) = decide (k ≤ 160) := by
  unfold neatB
  rw [lK_len]
  rcases h with rfl | rfl | rfl
  · rw [neat_159]; simp
  · rw [neat_160]; simp
  · simp
theorem outC_sorted (f : Nat → List Sp) (h : ∀ r, r < 8 → Neat (f r)) : (outC f).Pairwise fun a b => a.1 < b.1 ∨ (a.1 = b.1 ∧ a.2.1 < b.2.1) := by
  unfold outC
  rw [List.pairwise_flatMap]
  refine ⟨fun r hr => ?_, ?_⟩
  · have hw := wk_neat _ (h r (List.mem_range.1 hr))
    unfold tag
    rw [List.pairwise_map]
    refine List.Pairwise.imp_of_mem ?_ hw.2
    intro a b ha _ hab
    have := hw.1 a ha
    exact .inr ⟨rfl, Int.lt_of_le_of_lt this.2.1 hab⟩
  · refine List.pairwise_lt_range.imp ?_
    intro r s hrs a ha b hb
    unfold tag at ha hb
    obtain ⟨x, _, rfl⟩ := List.mem_map.1 ha
    obtain ⟨y, _, rfl⟩ := List.mem_map.1 hb
    left
    show (r : Int) < (s : Int)
    omega
/-- two neighbours change their places. -/
def swap (l : List C) (j : Nat) : List C := (l.set j (clK (j + 1))).set (j + 1) (clK j)
theorem swap_len (l : List C) (j : Nat) : (swap l j).length = l.length := by simp [swap]
theorem swap_no (k j : Nat) (h : j + 1 < k) : neatB (swap (lK k) j) = false := by
  rw [Bool.eq_false_iff]
  intro g
  have e := (neatB_ok g).1
  have hs := outC_sorted (neatF (swap (lK k) j)) (fun r _ => neatF_neat _ r)
  have hs2 : (swap (lK k) j).Pairwise fun a b => a.1 < b.1 ∨ (a.1 = b.1 ∧ a.2.1 < b.2.1) := by rw [e]; exact hs
  rw [List.pairwise_iff_getElem] at hs2
  have hl : (swap (lK k) j).length = k := by rw [swap_len, lK_len]
  have := hs2 j (j + 1) (by omega) (by omega) (by omega)
  have e1 : (swap (lK k) j)[j]'(by omega) = clK (j + 1) := by
    simp only [swap]
    rw [List.getElem_set_ne (by omega), List.getElem_set_self]
  have e2 : (swap (lK k) j)[j + 1]'(by omega) = clK j := by
    simp only [swap]
    rw [List.getElem_set_self]
  rw [e1, e2] at this
  simp only [clK] at this
  omega
end Go.Proofs.YtocnobgdlgndjaaGreat.De

/- Plain facts of RtextBack: the parts of a rule's text and their lengths. -/
import Derived.Test.YtffobailjdhijaaGreatDoorRtRot
import Derived.Test.YtffobailjdhijaaGreatDoorRtJ
namespace Go.Proofs.YtffobailjdhijaaGreatDoor
open Go.RowKit Rul Rt

theorem name_len (p : Rt.Part) : (nameOf p).length ≤ 10 := by cases p <;> simp only [nameOf] <;> decide
theorem textP_len (p : Rt.Part) (n : Nat) (h : (valT unU p).length ≤ n) : (textP unU p).length ≤ n + 11 := by
  unfold textP
  rw [List.length_append, List.length_cons]
  have := name_len p
  omega
theorem field_len (r : T) (h : recB r = true) : ∀ p ∈ fieldsP unU r, (textP unU p).length ≤ 1000 := by
  have k := rec_facts h
  have k1 := k.f1
  have k2 := k.f2
  have k3 := k.e1
  have k4 := k.e2
  have k5 := k.c1
  have k6 := k.c2
  have hul : ∀ a n, in64 n → (unlessT a n).length ≤ 30 := fun a n h => by
    unfold unlessT; split
    · simp
    · exact Nat.le_trans (Lib.itoa_length_le n h.1 h.2) (by omega)
  have hll : ∀ l : List Int, l.length ≤ 12 → (∀ x ∈ l, in64 x) → (listT Lib.itoa l).length ≤ 900 := fun l h1 h2 => by
    have := listT_len Lib.itoa 30 l fun x hx => Nat.le_trans (Lib.itoa_length_le x (h2 x hx).1 (h2 x hx).2) (by omega)
    omega
  obtain ⟨d1, d2, _⟩ := (listB_iff ordW (0, 0) r.ds).1 k.ds
  obtain ⟨m1, m2, _⟩ := (listB_iff ordI 0 r.ms).1 k.ms
  obtain ⟨y1, y2, _⟩ := (listB_iff ordI 0 r.ys).1 k.ys
  have hld : (listT dayT r.ds).length ≤ 900 := by
    have := listT_len dayT 40 r.ds fun x hx => dayT_len x (by
      have := d2 x hx
      rw [wdOk, Bool.and_eq_true, btw_iff] at this
      unfold in64; omega)
    omega
  have hlm := hll r.ms m1 fun x hx => by
    have := m2 x hx
    rw [mdOk, Bool.and_eq_true, btw_iff] at this
    unfold in64; omega
  have hly := hll r.ys y1 fun x hx => by
    have := y2 x hx
    rw [moOk, btw_iff] at this
    unfold in64; omega
  have hfl : (freqT r.fr).length ≤ 100 := by
    have : ∀ n : Nat, n < 4 → (freqWs.getD n []).length ≤ 100 := by decide
    exact this (r.fr.toNat - 1) (by omega)
  have htl := text_len r.un
  have u1 := hul 1 r.ev (by unfold in64; omega)
  have u2 := hul 0 r.ct (by unfold in64; omega)
  intro p hp
  have hp2 : p ∈ allP r := (List.mem_filter.1 hp).1
  simp only [allP, List.mem_cons, List.not_mem_nil, or_false] at hp2
  rcases hp2 with rfl | rfl | rfl | rfl | rfl | rfl | rfl
  · exact Nat.le_trans (textP_len _ 100 hfl) (by omega)
  · exact Nat.le_trans (textP_len _ 30 u1) (by omega)
  · exact Nat.le_trans (textP_len _ 30 u2) (by omega)
  · exact Nat.le_trans (textP_len _ 15 htl) (by omega)
  · exact Nat.le_trans (textP_len _ 900 hly) (by omega)
  · exact Nat.le_trans (textP_len _ 900 hlm) (by omega)
  · exact Nat.le_trans (textP_len _ 900 hld) (by omega)
/-- what RtextBack asks of a rule, in plain. -/
structure Backs (r : T) (ws : List Tx) : Prop where
  text : printE unU r = joinAt 59 ws
  cut : cutAt 59 (printE unU r) = ws
  pos : 0 < ws.length
  le : ws.length ≤ 7
  len : ∀ p ∈ ws, p.length ≤ 1000
  back : ansC unU (printE unU r) = some r
  turn : ∀ k, ansC unU (joinAt 59 (Rt.rot k ws)) = some r
  twice : ∀ k, ∀ x ∈ ws, ansC unU (joinAt 59 (Rt.rot k ws) ++ 59 :: x) = none
theorem backs_of (r : T) (hi : isB r = true) (hf : r.fr ≠ 0) : ∃ ws, Backs r ws := by
  have hs : sameB r once = false := by
    cases h : sameB r once with
    | false => rfl
    | true =>
      have e := (sameB_iff _ _).1 h
      exact absurd (by rw [e]; rfl) hf
  have hr : recB r = true := by
    unfold isB at hi
    rw [Bool.or_eq_true] at hi
    rcases hi with h | h
    · rw [sameB_iff] at h
      exact absurd (by rw [h]; rfl) hf
    · exact h
  have ht := print_yes unU r hi hs
  have hne : (fieldsP unU r).map (textP unU) ≠ [] := fun e => fields_ne unU r hr (List.map_eq_nil_iff.1 e)
  refine ⟨(fieldsP unU r).map (textP unU), ht, ?_, ?_, ?_, ?_, ?_, back_rot unU r hr, rot_twice unU r hr⟩
  · rw [ht]
    exact cut_join 59 _ hne fun p hp => by
      obtain ⟨x, _, rfl⟩ := List.mem_map.1 hp
      exact text_free unU x
  · exact List.length_pos_iff.2 hne
  · rw [List.length_map]
    exact Nat.le_trans (List.length_filter_le _ _) (by simp [allP])
  · intro p hp
    obtain ⟨x, hx, rfl⟩ := List.mem_map.1 hp
    exact field_len r hr x hx
  · rw [ht]
    exact back_perm unU r hr _ (List.Perm.refl _)

end Go.Proofs.YtffobailjdhijaaGreatDoor

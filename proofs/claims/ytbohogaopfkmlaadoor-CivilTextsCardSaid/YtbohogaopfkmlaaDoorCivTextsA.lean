/- CivilTexts, plain facts: a text that is read is the text of what was read. -/
import Derived.Test.YtbohogaopfkmlaaDoorCivTxt
namespace Go.Proofs.YtbohogaopfkmlaaDoor
open Go.RowKit

theorem dg_back (c : UInt8) (h : digit c = true) : dg (c.toNat - 48) = c := by
  rw [digit_iff] at h
  unfold dg
  have e : 48 + (c.toNat - 48) = c.toNat := by omega
  rw [e, UInt8.ofNat_toNat]
theorem two_back (c e : UInt8) (h : digit c = true) (g : digit e = true) : two (((c.toNat : Int) - 48) * 10 + ((e.toNat : Int) - 48)).toNat = [c, e] := by
  have h' := (digit_iff c).1 h
  have g' := (digit_iff e).1 g
  have e1 : (((c.toNat : Int) - 48) * 10 + ((e.toNat : Int) - 48)).toNat = (c.toNat - 48) * 10 + (e.toNat - 48) := by omega
  have e2 : ((c.toNat - 48) * 10 + (e.toNat - 48)) / 10 = c.toNat - 48 := by omega
  have e3 : ((c.toNat - 48) * 10 + (e.toNat - 48)) % 10 = e.toNat - 48 := by omega
  unfold two
  rw [e1, e2, e3, dg_back c h, dg_back e g]
theorem byte_of (c : UInt8) (k : Nat) (h : c.toNat = k) : c = UInt8.ofNat k := by
  rw [← h, UInt8.ofNat_toNat]

theorem minE_0 {y m d h i n : Int} (e : minE y m d h i = (n, 0)) : Cal.isB y m d = true ∧ 2000 ≤ y ∧ y ≤ 2099 ∧ 0 ≤ h ∧ h ≤ 23 ∧ 0 ≤ i ∧ i ≤ 59 ∧ n = Cal.num y m d * 1440 + h * 60 + i := by
  unfold minE at e
  cases hb : Cal.isB y m d
  · rw [numE_11 y m d hb] at e
    simp at e
  · by_cases hy : y < 2000 ∨ 2099 < y
    · rw [numE_10 y m d hb hy] at e
      simp at e
    · rw [numE_0 y m d hb (by omega) (by omega)] at e
      simp only [if_true] at e
      cases ht : timeB h i
      · rw [ht] at e
        simp at e
      · rw [ht] at e
        simp only [if_true, Prod.mk.injEq, and_true] at e
        have := (timeB_iff h i).1 ht
        exact ⟨rfl, by omega, by omega, this.1, this.2.1, this.2.2.1, this.2.2.2, e.symm⟩
theorem minE_c (y m d h i : Int) : (minE y m d h i).2 = 0 ∨ ((minE y m d h i).1 = 0 ∧ ((minE y m d h i).2 = 10 ∨ (minE y m d h i).2 = 11)) := by
  unfold minE
  rcases numE_cases y m d with ⟨c, e, hc⟩ | ⟨a, e, -⟩
  · rw [e]
    have : ¬ (c = 0) := by omega
    simp only [if_neg this]
    exact .inr ⟨trivial, hc⟩
  · rw [e]
    simp only [if_true]
    cases timeB h i
    · exact .inr ⟨by simp, .inr (by simp)⟩
    · exact .inl (by simp)
theorem parse_c (l : List UInt8) : (parseE l).2 = 0 ∨ ((parseE l).1 = 0 ∧ ((parseE l).2 = 10 ∨ (parseE l).2 = 11 ∨ (parseE l).2 = 14)) := by
  unfold parseE
  split
  · rcases minE_c (val (l.take 4)) (val ((l.drop 4).take 2)) (val ((l.drop 6).take 2)) (val ((l.drop 9).take 2)) (val ((l.drop 11).take 2)) with h | ⟨h, g | g⟩
    · exact .inl h
    · exact .inr ⟨h, .inl g⟩
    · exact .inr ⟨h, .inr (.inl g)⟩
  · exact .inr ⟨rfl, .inr (.inr rfl)⟩

theorem parse_form (l : List UInt8) (n : Int) (h : parseE l = (n, 0)) : formB l = true := by
  unfold parseE at h
  cases hf : formB l
  · rw [hf] at h; simp at h
  · rfl

/-- what is read is there, and its text is what was read. -/
theorem parse_back (l : List UInt8) (n : Int) (h : parseE l = (n, 0)) : 0 ≤ n ∧ n < 52596000 ∧ textOf n = l := by
  have hf := parse_form l n h
  unfold parseE at h
  rw [if_pos hf] at h
  have hl := (form_parts l hf).1
  obtain ⟨c0, c1, c2, c3, c4, c5, c6, c7, c8, c9, c10, c11, c12, c13, c14, rfl⟩ : ∃ c0 c1 c2 c3 c4 c5 c6 c7 c8 c9 c10 c11 c12 c13 c14, l = [c0, c1, c2, c3, c4, c5, c6, c7, c8, c9, c10, c11, c12, c13, c14] := by
    match l, hl with
    | [c0, c1, c2, c3, c4, c5, c6, c7, c8, c9, c10, c11, c12, c13, c14], _ => exact ⟨_, _, _, _, _, _, _, _, _, _, _, _, _, _, _, rfl⟩
  clear hl
  simp only [formB, digitsB, List.take_succ_cons, List.take_zero, List.drop_succ_cons, List.drop_zero, List.all_cons, List.all_nil, List.getD_cons_succ, List.getD_cons_zero, Bool.and_eq_true, beq_iff_eq, List.cons.injEq, and_true] at hf
  obtain ⟨⟨⟨⟨-, h8⟩, h13, h14⟩, g0, g1, g2, g3, g4, g5, g6, g7⟩, g9, g10, g11, g12, -, -⟩ := hf
  subst h8 h13 h14
  simp only [val, List.take_succ_cons, List.take_zero, List.drop_succ_cons, List.drop_zero, List.foldl_cons, List.foldl_nil, Int.zero_mul, Int.zero_add] at h
  obtain ⟨i1, y1, y2, h1, h2, m1, m2, hn⟩ := minE_0 h
  have k1 := (digit_iff c0).1 g0
  have k2 := (digit_iff c1).1 g1
  have k3 := (digit_iff c2).1 g2
  have k4 := (digit_iff c3).1 g3
  have b0 : c0 = 50 := byte_of c0 50 (by omega)
  have b1 : c1 = 48 := byte_of c1 48 (by omega)
  subst b0 b1
  have e50 : ((50 : UInt8).toNat : Int) = 50 := rfl
  have e48 : ((48 : UInt8).toNat : Int) = 48 := rfl
  rw [e50, e48] at h i1 y1 y2 hn
  have nb := Cal.num_bd _ _ _ y1 y2 i1
  have un := Cal.of_unique _ _ _ _ y1 y2 i1 rfl
  clear h i1
  have hq : n / 1440 = Cal.num (((((50 : Int) - 48) * 10 + (48 - 48)) * 10 + ((c2.toNat : Int) - 48)) * 10 + ((c3.toNat : Int) - 48)) (((c4.toNat : Int) - 48) * 10 + ((c5.toNat : Int) - 48)) (((c6.toNat : Int) - 48) * 10 + ((c7.toNat : Int) - 48)) := by omega
  have hh : n % 1440 / 60 = ((c9.toNat : Int) - 48) * 10 + ((c10.toNat : Int) - 48) := by omega
  have hi : n % 60 = ((c11.toNat : Int) - 48) * 10 + ((c12.toNat : Int) - 48) := by omega
  have r1 : 0 ≤ n := by omega
  have r2 : n < 52596000 := by omega
  refine ⟨r1, r2, ?_⟩
  rw [textOf_in n r1 r2, hq, un.1, un.2.1, un.2.2, hh, hi]
  unfold txt
  have ey : (((((50 : Int) - 48) * 10 + (48 - 48)) * 10 + ((c2.toNat : Int) - 48)) * 10 + ((c3.toNat : Int) - 48) - 2000).toNat = (((c2.toNat : Int) - 48) * 10 + ((c3.toNat : Int) - 48)).toNat := by omega
  rw [ey, two_back c2 c3 g2 g3, two_back c4 c5 g4 g5, two_back c6 c7 g6 g7, two_back c9 c10 g9 g10, two_back c11 c12 g11 g12]
  rfl

end Go.Proofs.YtbohogaopfkmlaaDoor

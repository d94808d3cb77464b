/- FoldSigns walked: each sign that is escaped stands behind one that says so; all others stay. -/
import Derived.Test.YtpicfpadednnoaaDoorFoK
namespace Go.Proofs.YtpicfpadednnoaaDoor
open Go.RowKit Rul Rt Fo Go.Sort

theorem count_next (S : Tx) (s : ByteArray) (hS : S = s.data.toList) (j : Nat) (h : j < s.size) (c : UInt8) (hc : s[j] = c) : (S.take (j + 1)).countP sgn = (S.take j).countP sgn + (if sgn c = true then 1 else 0) := by
  subst hS
  rw [take_next s j h, hc, List.countP_append, List.countP_cons, List.countP_nil]
  omega
theorem unescape_cat (t x : Tx) (o : Option Tx) (w : World) (he : Env w) (ht : (t ++ x).length ≤ 100000) (h : unE (t ++ x) = o) : Calls Tryd.prog 9 #[.string (str t ++ str x)] w (Ans w (unA o)) := by
  rw [str_app]
  exact unescape_at _ _ w he ht h

set_option maxRecDepth 100000 in
set_option maxHeartbeats 1000000 in
theorem signs_any (s : ByteArray) (w : World) (he : Env w) :
    Calls Tryd.prog 6 #[.string s] w (Ans w (.bool true)) := by
  have HE := hide he
  have HK := hide (known_any w he)
  clear he
  by_cases hbig : 200 < s.size
  · have q : decide ((200 : Int) < (s.size : Int)) = true := decide_eq_true (by omega)
    go_enter Tryd.func6, Tryd.ntmps6
    go_wp2_with fail
    refine (HK.out).mono ?_
    rintro e w1 ⟨rfl, hb1⟩
    have HB := hide hb1
    clear hb1
    go_wp2_with fail
    go_ret
    exact ⟨rfl, HB.out⟩
  · have q : decide ((200 : Int) < (s.size : Int)) = false := decide_eq_false (by omega)
    have hs : (s.size : Int) ≤ 200 := by omega
    have hEl := escE_len s.data.toList
    have hEc := escE_count s.data.toList
    rw [len_of] at hEl hEc
    have C1 := hide (fun w => escape_any s w (by omega))
    have C2 := hide (fun w he => unescape_at (escE s.data.toList) (some s.data.toList) w he (by omega) (unE_escE _))
    have C3 := hide (fun w he => unescape_cat (escE s.data.toList) [92] none w he (by rw [List.length_append]; simp; omega) (by rw [unE_esc]; rfl))
    have C4 := hide (fun w he => unescape_cat (escE s.data.toList) [92, 120] none w he (by rw [List.length_append]; simp; omega) (by rw [unE_esc]; rfl))
    have C5 := hide (fun w he => unescape_cat (escE s.data.toList) [59] none w he (by rw [List.length_append]; simp; omega) (by rw [unE_esc]; rfl))
    have HS := hide (And.intro hEl hEc)
    generalize escE s.data.toList = E at *
    clear hEl hEc hbig
    simp only [unA] at C2 C3 C4 C5
    go_enter Tryd.func6, Tryd.ntmps6
    go_wp2_with fail
    refine (HK.out).mono ?_
    rintro e w1 ⟨rfl, hb1⟩
    have HB := hide hb1
    clear hb1
    go_wp2_with fail
    go_loopw [3, 4] (fun n i wr => ∃ (j m : Nat), j ≤ s.size ∧ i = .int .i64 j ∧ n = .int .i64 m ∧ Hid ((s.data.toList.take j).countP sgn = m ∧ m ≤ j) ∧ wr = w1) (fun _ i _ => s.size - (intOf i).toNat)
    case atStart => exact ⟨0, 0, Nat.zero_le _, rfl, rfl, hide ⟨rfl, Nat.le_refl _⟩, rfl⟩
    case round =>
      obtain ⟨j, m, hj, rfl, rfl, HC, rfl⟩ := hrel
      have hmj : (m : Int) ≤ 200 := by have := HC.out.2; omega
      by_cases hlt : j < s.size
      · obtain ⟨c, hc⟩ : ∃ c, s[j] = c := ⟨_, rfl⟩
        have HN := hide (count_next _ s rfl j hlt c hc)
        rw [HC.out.1] at HN
        have hi0 : (0 : Int) ≤ (j : Int) := by omega
        have hi1 : (j : Int) < (s.size : Int) := by omega
        cases hsg : sgn c with
        | true =>
          rw [hsg, if_pos rfl] at HN
          have HC2 : Hid ((s.data.toList.take (j + 1)).countP sgn = m + 1 ∧ m + 1 ≤ j + 1) := hide ⟨HN.out, by have := HC.out.2; omega⟩
          have q : (((c.toNat : Int) == 92) = true ∨ (((c.toNat : Int) == 92) = false ∧ ((c.toNat : Int) == 59) = true) ∨ (((c.toNat : Int) == 92) = false ∧ ((c.toNat : Int) == 59) = false ∧ ((c.toNat : Int) == 44) = true) ∨ (((c.toNat : Int) == 92) = false ∧ ((c.toNat : Int) == 59) = false ∧ ((c.toNat : Int) == 44) = false ∧ ((c.toNat : Int) == 10) = true)) := by
            unfold sgn at hsg
            simp only [Bool.or_eq_true, beq_iff_eq] at hsg
            rcases hsg with ((rfl | rfl) | rfl) | rfl
            · exact Or.inl (by decide)
            · exact Or.inr (Or.inl ⟨by decide, by decide⟩)
            · exact Or.inr (Or.inr (Or.inl ⟨by decide, by decide, by decide⟩))
            · exact Or.inr (Or.inr (Or.inr ⟨by decide, by decide, by decide, by decide⟩))
          clear hsg HN HC
          rcases q with q1 | ⟨q1, q2⟩ | ⟨q1, q2, q3⟩ | ⟨q1, q2, q3, q4⟩
          all_goals
            go_wp2_with fail
            go_roundw
            case rel => exact ⟨j + 1, m + 1, by omega, by go_num, by go_num, HC2, by trivial⟩
            case measure => simp [intOf]; omega
        | false =>
          rw [hsg, if_neg (by decide)] at HN
          have HC2 : Hid ((s.data.toList.take (j + 1)).countP sgn = m ∧ m ≤ j + 1) := hide ⟨HN.out, by have := HC.out.2; omega⟩
          obtain ⟨b0, b1, b2, b3⟩ : c ≠ 92 ∧ c ≠ 59 ∧ c ≠ 44 ∧ c ≠ 10 := by
            unfold sgn at hsg
            simp only [Bool.or_eq_false_iff, beq_eq_false_iff_ne] at hsg
            exact ⟨hsg.1.1.1, hsg.1.1.2, hsg.1.2, hsg.2⟩
          have q1 : ((c.toNat : Int) == 92) = false := by rw [show (92 : Int) = ((92 : UInt8).toNat : Int) from rfl, byte_eq]; simp; exact b0
          have q2 : ((c.toNat : Int) == 59) = false := by rw [show (59 : Int) = ((59 : UInt8).toNat : Int) from rfl, byte_eq]; simp; exact b1
          have q3 : ((c.toNat : Int) == 44) = false := by rw [show (44 : Int) = ((44 : UInt8).toNat : Int) from rfl, byte_eq]; simp; exact b2
          have q4 : ((c.toNat : Int) == 10) = false := by rw [show (10 : Int) = ((10 : UInt8).toNat : Int) from rfl, byte_eq]; simp; exact b3
          clear hsg HN HC b0 b1 b2 b3
          go_wp2_with fail
          go_roundw
          case rel => exact ⟨j + 1, m, by omega, by go_num, rfl, HC2, by trivial⟩
          case measure => simp [intOf]; omega
      · obtain rfl : j = s.size := by omega
        have hm : (s.data.toList).countP sgn = m := by
          have h := HC.out.1
          rw [List.take_of_length_le (by simp)] at h
          exact h
        have hEs : (str E).size = s.size + m := by rw [str_size, HS.out.2, hm]
        have hEs2 : (str E).size ≤ 1000 := by omega
        have qz : (((str E).size : Int) == (s.size : Int) + (m : Int)) = true := by rw [beq_iff_eq]; omega
        have qs : ((str s.data.toList).toList == s.toList) = true := by rw [data_str]; exact beq_self_eq_true _
        clear hm hEs
        go_wp2_with fail
        refine (C1.out _).mono ?_
        rintro e w2 ⟨rfl, hb2⟩
        replace HB := hide (andthen HB.out hb2)
        clear hb2
        go_wp2_with fail
        refine (C2.out _ (HE.out.keep HB.out)).mono ?_
        rintro e w3 ⟨rfl, hb3⟩
        replace HB := hide (andthen HB.out hb3)
        clear hb3
        go_wp2_with fail
        refine (C3.out _ (HE.out.keep HB.out)).mono ?_
        rintro e w4 ⟨rfl, hb4⟩
        replace HB := hide (andthen HB.out hb4)
        clear hb4
        go_wp2_with fail
        refine (C4.out _ (HE.out.keep HB.out)).mono ?_
        rintro e w5 ⟨rfl, hb5⟩
        replace HB := hide (andthen HB.out hb5)
        clear hb5
        go_wp2_with fail
        refine (C5.out _ (HE.out.keep HB.out)).mono ?_
        rintro e w6 ⟨rfl, hb6⟩
        replace HB := hide (andthen HB.out hb6)
        clear hb6
        go_wp2_with fail
        go_ret
        exact ⟨rfl, HB.out⟩

end Go.Proofs.YtpicfpadednnoaaDoor

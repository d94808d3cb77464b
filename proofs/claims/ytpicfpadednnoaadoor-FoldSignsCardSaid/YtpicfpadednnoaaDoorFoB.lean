/- Walks of package fold: Escape, meant. -/
import Derived.Test.YtpicfpadednnoaaDoorFoA
namespace Go.Proofs.YtpicfpadednnoaaDoor
open Go.RowKit Rul Rt Fo Go.Sort

theorem esc_mark (s : Tx) (c : UInt8) (h : c = 92 ∨ c = 59 ∨ c = 44) : escE (s ++ [c]) = (escE s ++ [92]) ++ [c] := by
  rw [escE_snoc, escB, if_pos h, List.append_assoc]; rfl
theorem esc_end (s : Tx) : escE (s ++ [10]) = (escE s ++ [92]) ++ [110] := by
  rw [escE_snoc, List.append_assoc]; rfl
theorem esc_plain (s : Tx) (c : UInt8) (h : ¬ (c = 92 ∨ c = 59 ∨ c = 44)) (h2 : c ≠ 10) : escE (s ++ [c]) = escE s ++ [c] := by
  rw [escE_snoc, escB, if_neg h, if_neg h2]

set_option maxRecDepth 100000 in
set_option maxHeartbeats 1000000 in
theorem escape_any (s : ByteArray) (w : World) (hs : s.size ≤ 100000) :
    Calls Tryd.prog 16 #[.string s] w (Ans w (.string (str (escE s.data.toList)))) := by
  have HB0 := hide (bu_new w)
  have HW0 : Hid (Below w.heap.size w (w.alloc (.cells #[.pointer none, .slice none 0 0] 39))) := hide (more (start w) _)
  go_enter Tryd.func16, Tryd.ntmps16
  go_wp2_with fail
  go_loopw [8] (fun i wr => ∃ k : Nat, k ≤ s.size ∧ i = .int .i64 k ∧ Hid (Bu wr w.heap.size (escE (s.data.toList.take k))) ∧ Hid (Below w.heap.size w wr)) (fun i _ => s.size - (intOf i).toNat)
  case atStart => exact ⟨0, Nat.zero_le _, rfl, HB0, HW0⟩
  case round =>
    obtain ⟨k, hk, rfl, HB, HW⟩ := hrel
    by_cases hlt : k < s.size
    · have HT := hide (take_next s k hlt)
      have HL : Hid ((escE (s.data.toList.take k)).length ≤ 300000) := hide (by have := escE_len (s.data.toList.take k); rw [List.length_take] at this; omega)
      obtain ⟨c, hc⟩ : ∃ c, s[k] = c := ⟨_, rfl⟩
      rw [hc] at HT
      have hmk : (str [92]).size ≤ 1000000 := by rw [str_size]; decide
      by_cases h1 : c = 92 ∨ c = 59 ∨ c = 44
      · have HN := hide (esc_mark (s.data.toList.take k) c h1)
        rw [← HT.out] at HN
        generalize escE (s.data.toList.take k) = E at *
        obtain ⟨q1, q2, q3⟩ : (((c.toNat : Int) == 92) = true ∨ (((c.toNat : Int) == 92) = false ∧ ((c.toNat : Int) == 59) = true) ∨ (((c.toNat : Int) == 92) = false ∧ ((c.toNat : Int) == 59) = false ∧ ((c.toNat : Int) == 44) = true)) ∧ True ∧ True := by
          refine ⟨?_, trivial, trivial⟩
          rcases h1 with rfl | rfl | rfl
          · exact Or.inl (by decide)
          · exact Or.inr (Or.inl ⟨by decide, by decide⟩)
          · exact Or.inr (Or.inr ⟨by decide, by decide, by decide⟩)
        clear h1 q2 q3
        rcases q1 with q1 | ⟨q1, q2⟩ | ⟨q1, q2, q3⟩
        all_goals
          go_wp2_with fail
          refine (ws_any _ E (str [92]) wr HB.out (by have := HL.out; omega) hmk).mono ?_
          rintro e w1 ⟨rfl, h1, b1⟩
          have H1 := hide h1
          have B1 := hide (HW.out.trans b1)
          clear h1 b1
          go_wp2_with fail
          refine (wb_any _ (E ++ [92]) c _ rfl w1 H1.out (by have := HL.out; rw [List.length_append]; simp; omega)).mono ?_
          rintro e w2 ⟨rfl, h2, b2⟩
          have H2 := hide h2
          have B2 := hide (B1.out.trans b2)
          clear h2 b2
          go_wp2_with fail
          go_roundw
          case rel => exact ⟨k + 1, by omega, by go_num, by rw [HN.out]; exact H2, B2⟩
          case measure => simp [intOf]; omega
      · have q1 : ((c.toNat : Int) == 92) = false := by rw [show (92 : Int) = ((92 : UInt8).toNat : Int) from rfl, byte_eq]; simp; exact fun e => h1 (Or.inl e)
        have q2 : ((c.toNat : Int) == 59) = false := by rw [show (59 : Int) = ((59 : UInt8).toNat : Int) from rfl, byte_eq]; simp; exact fun e => h1 (Or.inr (Or.inl e))
        have q3 : ((c.toNat : Int) == 44) = false := by rw [show (44 : Int) = ((44 : UInt8).toNat : Int) from rfl, byte_eq]; simp; exact fun e => h1 (Or.inr (Or.inr e))
        by_cases h2 : c = 10
        · subst h2
          have HN := hide (esc_end (s.data.toList.take k))
          rw [← HT.out] at HN
          generalize escE (s.data.toList.take k) = E at *
          clear h1
          go_wp2_with fail
          refine (ws_any _ E (str [92]) wr HB.out (by have := HL.out; omega) hmk).mono ?_
          rintro e w1 ⟨rfl, h1, b1⟩
          have H1 := hide h1
          have B1 := hide (HW.out.trans b1)
          clear h1 b1
          go_wp2_with fail
          refine (wb_any _ (E ++ [92]) 110 _ rfl w1 H1.out (by have := HL.out; rw [List.length_append]; simp; omega)).mono ?_
          rintro e w2 ⟨rfl, h2, b2⟩
          have H2 := hide h2
          have B2 := hide (B1.out.trans b2)
          clear h2 b2
          go_wp2_with fail
          go_roundw
          case rel => exact ⟨k + 1, by omega, by go_num, by rw [HN.out]; exact H2, B2⟩
          case measure => simp [intOf]; omega
        · have q4 : ((c.toNat : Int) == 10) = false := by rw [show (10 : Int) = ((10 : UInt8).toNat : Int) from rfl, byte_eq]; simp; exact h2
          have HN := hide (esc_plain (s.data.toList.take k) c h1 h2)
          rw [← HT.out] at HN
          generalize escE (s.data.toList.take k) = E at *
          clear h1 h2
          go_wp2_with fail
          refine (wb_any _ E c _ rfl wr HB.out (by have := HL.out; omega)).mono ?_
          rintro e w2 ⟨rfl, h2, b2⟩
          have H2 := hide h2
          have B2 := hide (HW.out.trans b2)
          clear h2 b2
          go_wp2_with fail
          go_roundw
          case rel => exact ⟨k + 1, by omega, by go_num, by rw [HN.out]; exact H2, B2⟩
          case measure => simp [intOf]; omega
    · obtain rfl : k = s.size := by omega
      have HF : Hid (s.data.toList.take s.size = s.data.toList) := hide (List.take_of_length_le (by simp))
      rw [HF.out] at HB
      go_wp2_with fail
      refine (bstr_any _ _ wr HB.out).mono ?_
      rintro e w1 ⟨rfl, b1⟩
      have B1 := hide (HW.out.trans b1)
      clear b1
      go_wp2_with fail
      go_ret
      exact ⟨rfl, B1.out⟩

/-- what is meant by what follows a mark. -/
def meanA (t : Tx) : Value := match t with
  | [] => .tuple #[.int .u8 0, .bool false]
  | d :: _ => match mean d with
    | none => .tuple #[.int .u8 0, .bool false]
    | some b => .tuple #[.int .u8 b.toNat, .bool true]
theorem toList_nil {t : ByteArray} (h : t.data.toList = []) : t.size = 0 := by rw [← len_of, h]; rfl

set_option maxRecDepth 100000 in
set_option maxHeartbeats 1000000 in
theorem meant_any (t : ByteArray) (w : World) : Calls Tryd.prog 22 #[.string t] w fun e w' => e = .returned (meanA t.data.toList) ∧ w = w' := by
  cases hl : t.data.toList with
  | nil =>
    have hq : (t.toList == ([] : List UInt8)) = true := by rw [ByteArray.toList_eq, hl]; rfl
    go_enter Tryd.func22, Tryd.ntmps22
    go_wp2_with fail
    go_ret2
    exact ⟨rfl, rfl⟩
  | cons d u =>
    have hz : 0 < t.size := by rw [← len_of, hl]; simp
    have hd : t[0] = d := by
      have h1 : t.data.toList[0]'(by rw [hl]; simp) = d := by simp [hl]
      exact h1
    have hq : (t.toList == ([] : List UInt8)) = false := by rw [ByteArray.toList_eq, hl]; rfl
    have hz1 : (0 : Int) < (t.size : Int) := by omega
    clear hl
    by_cases h1 : d = 92 ∨ d = 59 ∨ d = 44
    · have HA : Hid (meanA (d :: u) = .tuple #[.int .u8 d.toNat, .bool true]) := hide (by unfold meanA; simp only [mean, if_pos h1])
      have q1 : (((d.toNat : Int) == 92) = true ∨ (((d.toNat : Int) == 92) = false ∧ ((d.toNat : Int) == 59) = true) ∨ (((d.toNat : Int) == 92) = false ∧ ((d.toNat : Int) == 59) = false ∧ ((d.toNat : Int) == 44) = true)) := by
        rcases h1 with rfl | rfl | rfl
        · exact Or.inl (by decide)
        · exact Or.inr (Or.inl ⟨by decide, by decide⟩)
        · exact Or.inr (Or.inr ⟨by decide, by decide, by decide⟩)
      clear h1
      rw [HA.out]
      rcases q1 with q1 | ⟨q1, q2⟩ | ⟨q1, q2, q3⟩
      all_goals
        go_enter Tryd.func22, Tryd.ntmps22
        go_wp2_with fail
        go_ret2
        exact ⟨rfl, rfl⟩
    · have q1 : ((d.toNat : Int) == 92) = false := by rw [show (92 : Int) = ((92 : UInt8).toNat : Int) from rfl, byte_eq]; simp; exact fun e => h1 (Or.inl e)
      have q2 : ((d.toNat : Int) == 59) = false := by rw [show (59 : Int) = ((59 : UInt8).toNat : Int) from rfl, byte_eq]; simp; exact fun e => h1 (Or.inr (Or.inl e))
      have q3 : ((d.toNat : Int) == 44) = false := by rw [show (44 : Int) = ((44 : UInt8).toNat : Int) from rfl, byte_eq]; simp; exact fun e => h1 (Or.inr (Or.inr e))
      by_cases h2 : d = 110 ∨ d = 78
      · have HA : Hid (meanA (d :: u) = .tuple #[.int .u8 10, .bool true]) := hide (by unfold meanA; simp only [mean, if_neg h1, if_pos h2]; rfl)
        have q4 : (((d.toNat : Int) == 110) = true ∨ (((d.toNat : Int) == 110) = false ∧ ((d.toNat : Int) == 78) = true)) := by
          rcases h2 with rfl | rfl
          · exact Or.inl (by decide)
          · exact Or.inr ⟨by decide, by decide⟩
        clear h1 h2
        rw [HA.out]
        rcases q4 with q4 | ⟨q4, q5⟩
        all_goals
          go_enter Tryd.func22, Tryd.ntmps22
          go_wp2_with fail
          go_ret2
          exact ⟨rfl, rfl⟩
      · have HA : Hid (meanA (d :: u) = .tuple #[.int .u8 0, .bool false]) := hide (by unfold meanA; simp only [mean, if_neg h1, if_neg h2])
        have q4 : ((d.toNat : Int) == 110) = false := by rw [show (110 : Int) = ((110 : UInt8).toNat : Int) from rfl, byte_eq]; simp; exact fun e => h2 (Or.inl e)
        have q5 : ((d.toNat : Int) == 78) = false := by rw [show (78 : Int) = ((78 : UInt8).toNat : Int) from rfl, byte_eq]; simp; exact fun e => h2 (Or.inr e)
        clear h1 h2
        rw [HA.out]
        go_enter Tryd.func22, Tryd.ntmps22
        go_wp2_with fail
        go_ret2
        exact ⟨rfl, rfl⟩

end Go.Proofs.YtpicfpadednnoaaDoor

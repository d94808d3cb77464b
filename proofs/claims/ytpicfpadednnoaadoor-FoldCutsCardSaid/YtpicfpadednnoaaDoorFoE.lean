/- strings.ContainsAny at the signs ';', ',' and the end of a line, of whatever text. -/
import Derived.Test.YtpicfpadednnoaaDoorFoC
import Derived.Test.YtpicfpadednnoaaDoorFoMathB
namespace Go.Proofs.YtpicfpadednnoaaDoor
open Go.RowKit Rul Rt Fo Go.Sort

def need : Tx := [59, 44, 10]
theorem need_ascii : ∀ b ∈ (str need).data.toList, b.toNat < 128 := by rw [str_list]; decide
theorem need_bad (c : UInt8) : need.contains c = bad c := by
  unfold need bad
  simp only [List.contains_cons, List.contains_nil, Bool.or_false, Bool.or_assoc]
theorem need_high (c : UInt8) (h : 128 ≤ c.toNat) : need.contains c = false := by
  rw [need_bad]
  unfold bad
  simp only [Bool.or_eq_false_iff, beq_eq_false_iff_ne]
  refine ⟨⟨?_, ?_⟩, ?_⟩ <;> (intro e; subst e; revert h; decide)
theorem indexAny_need : ∀ l : Tx, decide (0 ≤ Lib.indexAny l need) = l.any bad
  | [] => rfl
  | b :: l => by
    have ih := indexAny_need l
    have hg := Lib.indexAny_ge need l
    rw [List.any_cons, ← need_bad b, ← ih]
    have e : Lib.indexAny (b :: l) need = if need.contains b then 0 else if Lib.indexAny l need == -1 then -1 else Lib.indexAny l need + 1 := rfl
    rw [e]
    cases need.contains b with
    | true => rfl
    | false =>
      simp only [Bool.false_or, Bool.false_eq_true, if_false]
      by_cases h : Lib.indexAny l need = -1
      · rw [h]; rfl
      · rw [if_neg (by rw [beq_iff_eq]; exact h), decide_eq_true (by omega), decide_eq_true (by omega)]
theorem noAny_width {s : ByteArray} {i d : Nat} (h : Lib.NoAny s.data.toList need i) (hd : ∀ j, i ≤ j → j < i + d → ∃ hj : j < s.size, 128 ≤ (s[j]'hj).toNat) : Lib.NoAny s.data.toList need (i + d) := fun j b hj hb => by
  rcases Nat.lt_or_ge j i with g | g
  · exact h j b g hb
  · obtain ⟨hl, hx⟩ := hd j g hj
    rw [Lib.data_getElem? s j hl] at hb
    injection hb with hb
    rw [← hb]; exact need_high _ hx

theorem rune_at (r : Int) (w : World) (h1 : 128 ≤ r) : Calls Tryd.prog 36 #[.string (str need), .int .i32 r] w (Ans w (.int .i64 (-1))) := by
  by_cases h3 : r = 65533
  · subst h3; exact rune_bad _ w need_ascii
  · cases hv : Lib.validRune r with
    | true => exact rune_more _ r w need_ascii h1 h3 hv
    | false => exact rune_none _ r w h1 h3 hv

def FindsB (w : World) (b : Bool) (e : Ending) (w' : World) : Prop := ∃ k : Int, e = .returned (.int .i64 k) ∧ decide (0 ≤ k) = b ∧ Below w.heap.size w w'

set_option maxRecDepth 100000 in
set_option maxHeartbeats 2000000 in
theorem indexAny_short (s : ByteArray) (w : World) (h8 : s.size ≤ 8) :
    Calls Tryd.prog 29 #[.string s, .string (str need)] w (FindsB w (s.data.toList.any bad)) := by
  have q0 : ((str need).toList == ([] : List UInt8)) = false := by rw [str_tl]; rfl
  have q1 : (((str need).size : Int) == 1) = false := by rw [str_size]; rfl
  have q2 : decide ((8 : Int) < (s.size : Int)) = false := decide_eq_false (by omega)
  have HR := hide rune_at
  have HA := hide (fun (r : Int) (w : World) (h0 : 0 ≤ r) (h1 : r < 128) => Tryd.strings_IndexRune_ascii (str need) r w h0 h1)
  have HL : Hid ((str need).data.toList = need) := hide (str_list _)
  generalize str need = E at *
  rw [HL.out] at HA
  go_enter Tryd.func29, Tryd.ntmps29
  go_wp2_with fail
  refine (Tryd.strings_shouldUseASCIISet _ _).mono ?_
  rintro e w' ⟨rfl, rfl⟩
  rw [q2]
  go_wp2_with fail
  go_loopg [9, 10] s.size (fun g _ _ wx => ∃ i : Nat, i + g = s.size ∧ Hid (wx.heap[w'.heap.size]? = some (.stringIter s i)) ∧ Hid (Lib.NoAny s.data.toList need i) ∧ Hid (Below w'.heap.size w' wx))
  case atStart => exact ⟨0, by omega, hide (World.iter_heap _ _ _), hide (Lib.NoAny.zero _ _), hide (more (start w') _)⟩
  case round =>
    obtain ⟨i, hig, HI, HN, HB⟩ := hrel
    cases gk with
    | zero =>
      obtain rfl : i = s.size := by omega
      have hnx : ∀ ty, (Instr.next (.pointer (some ⟨w'.heap.size, 0, none⟩)) true ty).run Tryd.prog wr = _ := fun ty => Lib.run_next_end_at wr w'.heap.size s s.size ty HI.out (Nat.lt_irrefl _)
      have HF : Hid (s.data.toList.any bad = false) := hide (by
        have h1 := HN.out
        rw [Lib.size_eq] at h1
        rw [← indexAny_need, Lib.indexAny_none h1]; rfl)
      go_wp2_with fail
      go_ret
      exact ⟨_, rfl, by rw [HF.out]; rfl, HB.out⟩
    | succ g =>
      have hi : i < s.size := by omega
      obtain ⟨x, hx⟩ : ∃ x : UInt8, s[i]'hi = x := ⟨_, rfl⟩
      have HX : Hid (s.data.toList[i]? = some x) := hide (by rw [← hx]; exact Lib.data_getElem? s i hi)
      by_cases ha : x.toNat < 128
      · have hnx : ∀ ty, (Instr.next (.pointer (some ⟨w'.heap.size, 0, none⟩)) true ty).run Tryd.prog wr = _ := fun ty => Lib.run_next_ascii_at wr w'.heap.size s i ty HI.out hi (by rw [hx]; exact ha)
        rw [hx] at hnx
        have HI2 := hide (Lib.iterAt_heap wr w'.heap.size s i (i + 1) HI.out)
        have HB2 := hide (Lib.below_iterAt HB.out (Nat.le_refl _) s (i + 1))
        have HC := hide (HA.out (x.toNat : Int) (wr.iterAt w'.heap.size s (i + 1)) (by omega) (by omega))
        have hback : ((x.toNat : Int)).toNat.toUInt8 = x := by simp
        rw [hback] at HC
        obtain ⟨o, ho⟩ : ∃ o, Lib.indexByte need x = o := ⟨_, rfl⟩
        have hcon := Lib.contains_iff_indexByte need x
        rw [ho] at HC hcon
        generalize wr.iterAt w'.heap.size s (i + 1) = w5 at *
        cases hin : need.contains x with
        | false =>
          rw [hin] at hcon
          have hlt : decide ((0 : Int) ≤ o) = false := hcon.symm
          have HN2 := hide (HN.out.succ HX.out hin)
          clear hcon hin hx hback ho
          go_wp2_with fail
          refine (HC.out).mono ?_
          rintro e w6 ⟨rfl, rfl⟩
          go_wp2_with fail
          go_roundg g
          case measure => omega
          case rel => exact ⟨i + 1, by omega, HI2, HN2, HB2⟩
        | true =>
          rw [hin] at hcon
          have hlt : decide ((0 : Int) ≤ o) = true := hcon.symm
          have HF : Hid (s.data.toList.any bad = true) := hide (by
            rw [← indexAny_need, Lib.indexAny_hit HN.out HX.out hin]; exact decide_eq_true (by omega))
          clear hcon hin hx hback ho
          go_wp2_with fail
          refine (HC.out).mono ?_
          rintro e w6 ⟨rfl, rfl⟩
          go_wp2_with fail
          go_ret
          exact ⟨_, rfl, by rw [HF.out]; exact decide_eq_true (by omega), HB2.out⟩
      · have hnx : ∀ ty, (Instr.next (.pointer (some ⟨w'.heap.size, 0, none⟩)) true ty).run Tryd.prog wr = _ := fun ty => Lib.run_next_any_at wr w'.heap.size s i ty HI.out hi
        have hh : 128 ≤ (s[i]'hi).toNat := by rw [hx]; omega
        obtain ⟨g1, g2⟩ := decode_high s i hi hh
        have hd := decode_width s i hi hh
        obtain ⟨r, hr⟩ : ∃ r, (Utf8.decode s i).1 = r := ⟨_, rfl⟩
        obtain ⟨d, hdd⟩ : ∃ d, (Utf8.decode s i).2 = d := ⟨_, rfl⟩
        rw [hr, hdd] at hnx
        rw [hr] at g1
        rw [hdd] at g2 hd
        have hid : i + d ≤ s.size := by obtain ⟨h, _⟩ := hd (i + d - 1) (by omega) (by omega); omega
        have HN2 := hide (noAny_width HN.out hd)
        have HI2 := hide (Lib.iterAt_heap wr w'.heap.size s i (i + d) HI.out)
        have HB2 := hide (Lib.below_iterAt HB.out (Nat.le_refl _) s (i + d))
        have HC := hide (HR.out (r : Int) (wr.iterAt w'.heap.size s (i + d)) (by omega))
        generalize wr.iterAt w'.heap.size s (i + d) = w5 at *
        clear hr hdd hd hx ha hh HX HI HB HN
        go_wp2_with fail
        refine (HC.out).mono ?_
        rintro e w6 ⟨rfl, hb6⟩
        have hk5 : w'.heap.size < w5.heap.size := (Array.getElem?_eq_some_iff.1 HI2.out).1
        have HI3 := hide ((hb6.block _ hk5).trans HI2.out)
        have HB3 := hide (andthen HB2.out hb6)
        clear hb6
        go_wp2_with fail
        go_roundg (s.size - (i + d))
        case measure => omega
        case rel => exact ⟨i + d, by omega, HI3, HN2, HB3⟩

theorem indexAny_any (s : ByteArray) (w : World) (hs : s.size ≤ 1000000) :
    Calls Tryd.prog 29 #[.string s, .string (str need)] w (FindsB w (s.data.toList.any bad)) := by
  by_cases h8 : s.size ≤ 8
  · exact indexAny_short s w h8
  · refine (Tryd.strings_IndexAny_long (fun w => by kernel_rfl) s (str need) w (by rw [str_size]; decide) (by omega) (by omega) (by rw [str_size]; decide) (fun j b hb => need_ascii b (List.mem_of_getElem? hb))).mono ?_
    rintro e w' ⟨rfl, rfl⟩
    refine ⟨_, rfl, by rw [str_list]; exact indexAny_need _, more (more (start w) _) _⟩

set_option maxHeartbeats 400000 in
theorem containsAny_any (s : ByteArray) (w : World) (hs : s.size ≤ 1000000) :
    Calls Tryd.prog 19 #[.string s, .string (str need)] w (Ans w (.bool (s.data.toList.any bad))) := by
  have HA := hide (indexAny_any s w hs)
  clear hs
  generalize str need = E at *
  go_enter Tryd.func19, Tryd.ntmps19
  go_wp2_with fail
  refine (HA.out).mono ?_
  rintro e w1 ⟨k, rfl, hk, hb⟩
  have HK := hide hk
  clear hk
  go_wp2_with fail
  go_ret
  exact ⟨ret_bool HK.out, hb⟩

end Go.Proofs.YtpicfpadednnoaaDoor

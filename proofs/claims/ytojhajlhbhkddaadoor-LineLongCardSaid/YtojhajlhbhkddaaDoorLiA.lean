/- Walks of package line, the smallest: bytes of names, texts of such bytes, any number of names, Name. -/
import Derived.Test.YtojhajlhbhkddaaDoorRtC
import Derived.Test.YtojhajlhbhkddaaDoorLiMath
import Derived.Laws.IdiomStrings
import Derived.Great.BuildSlice
namespace Go.Proofs.YtojhajlhbhkddaaDoor
open Go.RowKit Rul Rt Fo Li Go.Sort

set_option maxRecDepth 100000 in
set_option maxHeartbeats 400000 in
theorem inNames_any (C : Int) (w : World) :
    Calls Tryd.prog 28 #[.int .u8 C] w fun e w' => e = .returned (.bool (inI C)) ∧ w = w' := by
  by_cases h1 : 65 ≤ C
  · have d1 : decide (65 ≤ C) = true := decide_eq_true h1
    by_cases h2 : C ≤ 90
    · have d2 : decide (C ≤ 90) = true := decide_eq_true h2
      have E := hide ((inI_iff C).2 (by omega))
      go_enter Tryd.func28, Tryd.ntmps28
      go_wp2_with fail
      go_ret
      exact ⟨ret_bool E.out.symm, rfl⟩
    · have d2 : decide (C ≤ 90) = false := decide_eq_false h2
      have h3 : 48 ≤ C := by omega
      have h4 : ¬ C ≤ 57 := by omega
      have d3 : decide (48 ≤ C) = true := decide_eq_true h3
      have d4 : decide (C ≤ 57) = false := decide_eq_false h4
      have d5 : (C == 45) = false := by rw [beq_eq_false_iff_ne]; omega
      have E := hide (inI_no C (by omega))
      go_enter Tryd.func28, Tryd.ntmps28
      go_wp2_with fail
      go_ret
      exact ⟨ret_bool E.out.symm, rfl⟩
  · have d1 : decide (65 ≤ C) = false := decide_eq_false h1
    by_cases h3 : 48 ≤ C
    · have d3 : decide (48 ≤ C) = true := decide_eq_true h3
      by_cases h4 : C ≤ 57
      · have d4 : decide (C ≤ 57) = true := decide_eq_true h4
        have E := hide ((inI_iff C).2 (by omega))
        go_enter Tryd.func28, Tryd.ntmps28
        go_wp2_with fail
        go_ret
        exact ⟨ret_bool E.out.symm, rfl⟩
      · have d4 : decide (C ≤ 57) = false := decide_eq_false h4
        have d5 : (C == 45) = false := by rw [beq_eq_false_iff_ne]; omega
        have E := hide (inI_no C (by omega))
        go_enter Tryd.func28, Tryd.ntmps28
        go_wp2_with fail
        go_ret
        exact ⟨ret_bool E.out.symm, rfl⟩
    · have d3 : decide (48 ≤ C) = false := decide_eq_false h3
      by_cases h5 : C = 45
      · have d5 : (C == 45) = true := by rw [beq_iff_eq]; exact h5
        have E := hide ((inI_iff C).2 (by omega))
        clear h5
        go_enter Tryd.func28, Tryd.ntmps28
        go_wp2_with fail
        go_ret
        exact ⟨ret_bool E.out.symm, rfl⟩
      · have d5 : (C == 45) = false := by rw [beq_eq_false_iff_ne]; exact h5
        have E := hide (inI_no C (by omega))
        go_enter Tryd.func28, Tryd.ntmps28
        go_wp2_with fail
        go_ret
        exact ⟨ret_bool E.out.symm, rfl⟩
theorem inNames_at (c : UInt8) (b : Bool) (w : World) (h : inN c = b) :
    Calls Tryd.prog 28 #[.int .u8 (c.toNat : Int)] w fun e w' => e = .returned (.bool b) ∧ w = w' := by
  subst h; exact inNames_any _ w

theorem byte_list (s : ByteArray) (k : Nat) (h : k < s.size) (h2 : k < s.data.toList.length) : s.data.toList[k]'h2 = s[k]'h := by
  simp [ByteArray.getElem_eq_getElem_data]

set_option maxRecDepth 100000 in
set_option maxHeartbeats 400000 in
theorem allIn_any (s : ByteArray) (w : World) (hs : s.size ≤ 100000) :
    Calls Tryd.prog 21 #[.string s] w fun e w' => e = .returned (.bool (s.data.toList.all inN)) ∧ w = w' := by
  go_enter Tryd.func21, Tryd.ntmps21
  go_wp2_with fail
  go_loopw [6] (fun i wr => ∃ k : Nat, k ≤ s.size ∧ i = .int .i64 k ∧ Hid ((s.data.toList.take k).all inN = true) ∧ wr = w) (fun i _ => s.size - (intOf i).toNat)
  case atStart => exact ⟨0, Nat.zero_le _, rfl, hide rfl, rfl⟩
  case round =>
    obtain ⟨k, hk, rfl, HA, rfl⟩ := hrel
    by_cases hlt : k < s.size
    · have hlt1 : (k : Int) < (s.size : Int) := by omega
      have hk0 : (0 : Int) ≤ (k : Int) := by omega
      obtain ⟨c, hc⟩ : ∃ c, s[k]'hlt = c := ⟨_, rfl⟩
      have hkl : k < s.data.toList.length := by rw [len_of]; exact hlt
      have hcl : s.data.toList[k] = c := by rw [byte_list s k hlt, hc]
      cases hb : inN c with
      | true =>
        have HN := hide (all_more s.data.toList k hkl HA.out (by rw [hcl]; exact hb))
        have HI := hide (inNames_at c true wr hb)
        clear hb hcl hkl
        go_wp2_with (go_at_call 28; refine (HI.out).mono ?_; rintro e w' ⟨rfl, rfl⟩)
        go_roundw
        case rel => exact ⟨k + 1, by omega, by go_num, HN, by trivial⟩
        case measure => simp [intOf]; omega
      | false =>
        have HF := hide (all_no s.data.toList k hkl (by rw [hcl]; exact hb))
        have HI := hide (inNames_at c false wr hb)
        clear hb hcl hkl
        go_wp2_with (go_at_call 28; refine (HI.out).mono ?_; rintro e w' ⟨rfl, rfl⟩)
        go_ret
        exact ⟨ret_bool HF.out.symm, rfl⟩
    · obtain rfl : k = s.size := by omega
      have HF : Hid (s.data.toList.all inN = true) := hide (by
        have h := HA.out
        rw [List.take_of_length_le (by rw [len_of]; omega)] at h
        exact h)
      go_wp2_with fail
      go_ret
      exact ⟨ret_bool HF.out.symm, rfl⟩
theorem allIn_at (s : ByteArray) (b : Bool) (w : World) (hs : s.size ≤ 100000) (h : s.data.toList.all inN = b) :
    Calls Tryd.prog 21 #[.string s] w fun e w' => e = .returned (.bool b) ∧ w = w' := by
  subst h; exact allIn_any s w hs

set_option maxRecDepth 100000 in
set_option maxHeartbeats 400000 in
theorem areNames_one (s : ByteArray) (b : Nat) (w : World) (hs : s.size ≤ 140737488355328) (hc : w.cell? ⟨b, 0, none⟩ = some (.string s)) :
    Calls Tryd.prog 14 #[.slice (some ⟨b, 0, none⟩) 1 1] w fun e w' => e = .returned (.bool (nameE s.data.toList)) ∧ w = w' := by
  go_enter Tryd.func14, Tryd.ntmps14
  go_wp2_with fail
  go_loopw [7] (fun i wr => ∃ k : Nat, k ≤ 1 ∧ i = .int .i64 k ∧ Hid (k = 1 → nameE s.data.toList = true) ∧ wr = w) (fun i _ => 1 - (intOf i).toNat)
  case atStart => exact ⟨0, Nat.zero_le _, rfl, hide (fun h => by cases h), rfl⟩
  case round =>
    obtain ⟨k, hk, rfl, HA, rfl⟩ := hrel
    by_cases hk1 : k = 1
    · subst hk1
      have HF := hide (HA.out rfl)
      go_wp2_with fail
      go_ret
      exact ⟨ret_bool HF.out.symm, rfl⟩
    · obtain rfl : k = 0 := by omega
      clear hk1 hk HA
      by_cases h1 : s.size < 1
      · have d1 : decide ((s.size : Int) < 1) = true := decide_eq_true (by omega)
        have HF := hide (nameE_short s.data.toList (by rw [len_of]; exact h1))
        go_wp2_with fail
        go_ret
        exact ⟨ret_bool HF.out.symm, rfl⟩
      · have d1 : decide ((s.size : Int) < 1) = false := decide_eq_false (by omega)
        by_cases h2 : 20 < s.size
        · have d2 : decide ((20 : Int) < (s.size : Int)) = true := decide_eq_true (by omega)
          have HF := hide (nameE_long s.data.toList (by rw [len_of]; exact h2))
          go_wp2_with fail
          go_ret
          exact ⟨ret_bool HF.out.symm, rfl⟩
        · have d2 : decide ((20 : Int) < (s.size : Int)) = false := decide_eq_false (by omega)
          have hn := nameE_all s.data.toList (by rw [len_of]; omega) (by rw [len_of]; omega)
          cases hb : s.data.toList.all inN with
          | true =>
            have HI := hide (allIn_at s true wr (by omega) hb)
            have HF := hide (hn.trans hb)
            clear hb hn
            go_wp2_with (go_at_call 21; refine (HI.out).mono ?_; rintro e w' ⟨rfl, rfl⟩)
            go_roundw
            case rel => exact ⟨1, Nat.le_refl _, by go_num, hide (fun _ => HF.out), by trivial⟩
            case measure => simp [intOf]
          | false =>
            have HI := hide (allIn_at s false wr (by omega) hb)
            have HF := hide (hn.trans hb)
            clear hb hn
            go_wp2_with (go_at_call 21; refine (HI.out).mono ?_; rintro e w' ⟨rfl, rfl⟩)
            go_ret
            exact ⟨ret_bool HF.out.symm, rfl⟩

theorem bsOne (s : ByteArray) (w : World) : (Instr.buildSlice 25 1 #[(0, .string s)]).run Tryd.prog w = .ok (.slice (some ⟨w.heap.size, 0, none⟩) 1 1) (w.alloc (.cells #[.string s] 9)) := by kernel_rfl
theorem cell_one (s : ByteArray) (w : World) : (w.alloc (.cells #[.string s] 9)).cell? ⟨w.heap.size, 0, none⟩ = some (.string s) := by rw [World.cell?_alloc_at _ _ _ _ rfl]; rfl

set_option maxRecDepth 100000 in
set_option maxHeartbeats 400000 in
theorem name_any (s : ByteArray) (w : World) (hs : s.size ≤ 140737488355328) :
    Calls Tryd.prog 8 #[.string s] w (Ans w (.bool (nameE s.data.toList))) := by
  have hbs := bsOne
  have HI := hide (areNames_one s _ _ hs (cell_one s w))
  have HB : Hid (Below w.heap.size w (w.alloc (.cells #[.string s] 9))) := hide (more (start w) _)
  go_enter Tryd.func8, Tryd.ntmps8
  go_wp2_with fail
  refine (HI.out).mono ?_
  rintro e w' ⟨rfl, rfl⟩
  go_wp2_with fail
  go_ret
  exact ⟨rfl, HB.out⟩
theorem name_at (s : ByteArray) (b : Bool) (w : World) (hs : s.size ≤ 140737488355328) (h : nameE s.data.toList = b) :
    Calls Tryd.prog 8 #[.string s] w (Ans w (.bool b)) := by
  subst h; exact name_any s w hs

end Go.Proofs.YtojhajlhbhkddaaDoor

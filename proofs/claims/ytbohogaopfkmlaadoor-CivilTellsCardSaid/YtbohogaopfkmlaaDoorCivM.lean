/- Walks of package civil: Parse. -/
import Derived.Test.YtbohogaopfkmlaaDoorCivL
namespace Go.Proofs.YtbohogaopfkmlaaDoor
open Go.RowKit

theorem at_8 (s : ByteArray) (h : s.size = 15) : s.data.toList.getD 8 0 = s[8]'(by omega) := by
  rw [List.getD_eq_getElem?_getD, List.getElem?_eq_getElem (by simpa using (by omega : 8 < s.size))]
  rfl
theorem suffix_00 (l : List UInt8) (h : l.length = 15) : Lib.hasSuffix l [48, 48] = (l.drop 13 == [48, 48]) := by
  unfold Lib.hasSuffix
  rw [Bool.eq_iff_iff, List.isSuffixOf_iff_suffix, List.suffix_iff_eq_drop]
  simp only [h, List.length_cons, List.length_nil, beq_iff_eq]
  exact ⟨fun h => h.symm, fun h => h.symm⟩
theorem not_84 (c : UInt8) : ((c.toNat : Int) != 84) = !(c == 84) := by
  by_cases h : c = 84
  · subst h; rfl
  · have h1 : (c == 84) = false := by simp [h]
    have h2 : ¬ c.toNat = 84 := fun e => h (UInt8.toNat_inj.1 e)
    rw [h1]
    simp only [Bool.not_false, bne_iff_ne]
    omega

theorem hasForm_any (s : ByteArray) (w : World) :
    Calls Tryd.prog 40 #[.string s] w fun e w' => e = .returned (.bool (formB s.data.toList)) ∧ w = w' := by
  have hl : s.data.toList.length = s.size := by simp
  unfold formB
  rw [hl]
  by_cases hn : s.size = 15
  · rw [decide_eq_true hn, Bool.true_and, at_8 s hn]
    cases ht : ((s[8]'(by omega)) == 84)
    · rw [Bool.false_and, Bool.false_and, Bool.false_and]
      exact hasForm_mid s w hn (by rw [not_84, ht]; rfl)
    · have ht' : (((s[8]'(by omega)).toNat : Int) != 84) = false := by rw [not_84, ht]; rfl
      rw [Bool.true_and]
      have hs := suffix_00 s.data.toList (hl.trans hn)
      cases he : (s.data.toList.drop 13 == [48, 48])
      · rw [Bool.false_and, Bool.false_and]
        exact hasForm_end s w hn ht' (hs.trans he)
      · rw [Bool.true_and]
        have e8 : (s.extract 0 8).data.toList = s.data.toList.take 8 := by rw [Lib.extract_data]; simp
        have e9 : (s.extract 9 15).data.toList = s.data.toList.drop 9 := by
          have := Lib.extract_to_end s 9
          rw [hn] at this
          exact this
        cases hd : digitsB (s.data.toList.take 8)
        · rw [Bool.false_and]
          exact hasForm_a s w hn ht' (hs.trans he) (by rw [e8, hd])
        · rw [Bool.true_and]
          exact hasForm_b _ s w hn ht' (hs.trans he) (by rw [e8, hd]) (by rw [e9])
  · rw [decide_eq_false hn, Bool.false_and, Bool.false_and, Bool.false_and, Bool.false_and]
    exact hasForm_long s w hn

theorem hasForm_at (b : Bool) (s : ByteArray) (w : World) (h : formB s.data.toList = b) :
    Calls Tryd.prog 40 #[.string s] w fun e w' => e = .returned (.bool b) ∧ w = w' := by
  subst h; exact hasForm_any s w

set_option maxHeartbeats 400000 in
theorem Parse_no (s : ByteArray) (w : World) (h : formB s.data.toList = false) :
    Calls Tryd.prog 29 #[.string s] w fun e w' => e = .returned (.tuple #[.int .i64 0, .int .i64 14]) ∧ Below w.heap.size w w' := by
  have H := hide h
  clear h
  go_enter Tryd.func29, Tryd.ntmps29
  go_wp2_with fail
  refine (hasForm_at false s _ H.out).mono ?_
  rintro e w' ⟨rfl, rfl⟩
  go_wp2_with fail
  go_ret2
  exact ⟨rfl, Below.refl _ _⟩

/-- the part of a text from a on, b - a bytes, as digits. -/
structure Part (s : ByteArray) (a b : Nat) : Prop where
  size : (s.extract a b).size = b - a
  small : b - a ≤ 4
  dig : digitsB (s.extract a b).data.toList = true
def pv (s : ByteArray) (a b : Nat) : Int := val (s.extract a b).data.toList
theorem value_part (s : ByteArray) (a b : Nat) (w : World) (h : Part s a b) :
    Calls Tryd.prog 41 #[.string (s.extract a b)] w fun e w' => e = .returned (.int .i64 (pv s a b)) ∧ w = w' := value_any _ w (by have := h.size; have := h.small; omega) h.dig

theorem held_step2 {W w2 w1 : World} {y mo d : Value} (hb : Below W.heap.size W w2)
    (h : W.cell? ⟨w1.heap.size, 0, none⟩ = some y ∧ W.cell? ⟨w1.heap.size, 1, none⟩ = some mo ∧ W.cell? ⟨w1.heap.size, 2, none⟩ = some d ∧ w1.heap.size < W.heap.size ∧ Below w1.heap.size w1 W) :
    w2.cell? ⟨w1.heap.size, 0, none⟩ = some y ∧ w2.cell? ⟨w1.heap.size, 1, none⟩ = some mo ∧ w2.cell? ⟨w1.heap.size, 2, none⟩ = some d ∧ w1.heap.size < w2.heap.size ∧ Below w1.heap.size w1 w2 := by
  obtain ⟨a, b, c, l, k⟩ := h
  have hc := (bcell hb).1
  exact ⟨by rw [hc _ _ l, a], by rw [hc _ _ l, b], by rw [hc _ _ l, c], Nat.lt_of_lt_of_le l hb.size, k.trans (hb.mono (by omega))⟩

set_option maxHeartbeats 1000000 in
theorem Parse_yes (s : ByteArray) (w : World) (h : formB s.data.toList = true) (hn : s.size = 15) (p1 : Part s 0 4) (p2 : Part s 4 6) (p3 : Part s 6 8) (p4 : Part s 9 11) (p5 : Part s 11 13) :
    Calls Tryd.prog 29 #[.string s] w fun e w' => e = .returned (.tuple #[.int .i64 (minE (pv s 0 4) (pv s 4 6) (pv s 6 8) (pv s 9 11) (pv s 11 13)).1, .int .i64 (minE (pv s 0 4) (pv s 4 6) (pv s 6 8) (pv s 9 11) (pv s 11 13)).2]) ∧ Below w.heap.size w w' := by
  have H := hide h
  clear h
  go_enter Tryd.func29, Tryd.ntmps29
  go_wp2_with fail
  refine (hasForm_at true s _ H.out).mono ?_
  rintro e w' ⟨rfl, rfl⟩
  go_wp2_with fail
  go_region_held3 (fun _ => True) (first | exact trivial | go_keep)
    (first | (go_at_call 41; with_reducible refine (value_part s 0 4 _ p1).mono ?_; rintro e w2 ⟨rfl, rfl⟩) | (go_at_call 41; with_reducible refine (value_part s 4 6 _ p2).mono ?_; rintro e w2 ⟨rfl, rfl⟩) | (go_at_call 41; with_reducible refine (value_part s 6 8 _ p3).mono ?_; rintro e w2 ⟨rfl, rfl⟩))
  all_goals
    go_wp2_with fail
    go_region_held3 (fun w' => w'.cell? ⟨w.heap.size, 0, none⟩ = some (.int .i64 (pv s 0 4)) ∧ w'.cell? ⟨w.heap.size, 1, none⟩ = some (.int .i64 (pv s 4 6)) ∧ w'.cell? ⟨w.heap.size, 2, none⟩ = some (.int .i64 (pv s 6 8)) ∧ w.heap.size < w'.heap.size ∧ Below w.heap.size w w')
      (first | exact ⟨by simp, by simp, by simp, by simp, by repeat (first | exact Below.refl _ _ | refine Below.drew ?_ | refine Below.setCell ?_ (by simp) _ | refine Below.alloc ?_ (by simp) _)⟩ | assumption | exact held_step2 (by assumption) (by assumption) | go_keep)
      (first | (go_at_call 41; with_reducible refine (value_part s 9 11 _ p4).mono ?_; rintro e w2 ⟨rfl, rfl⟩) | (go_at_call 41; with_reducible refine (value_part s 11 13 _ p5).mono ?_; rintro e w2 ⟨rfl, rfl⟩) | (go_at_call 16; with_reducible refine (Minute_any _ _ _ _ _ _).mono ?_; rintro e w2 ⟨rfl, hb2⟩))
    obtain ⟨_, _, _, _, hbel⟩ : _ ∧ _ ∧ _ ∧ _ ∧ _ := by assumption
    go_wp2_with fail
    go_ret2
    exact ⟨rfl, hbel⟩

/-- what Parse answers: the minute, or which error. -/
def parseE (l : List UInt8) : Int × Int := if formB l then minE (val (l.take 4)) (val ((l.drop 4).take 2)) (val ((l.drop 6).take 2)) (val ((l.drop 9).take 2)) (val ((l.drop 11).take 2)) else (0, 14)
theorem form_parts (l : List UInt8) (h : formB l = true) : l.length = 15 ∧ digitsB (l.take 8) = true ∧ digitsB (l.drop 9) = true := by
  unfold formB at h
  simp only [Bool.and_eq_true, decide_eq_true_eq] at h
  exact ⟨h.1.1.1.1, h.1.2, h.2⟩
theorem part_low (s : ByteArray) (a b : Nat) (hn : s.size = 15) (h : digitsB (s.data.toList.take 8) = true) (hb : b ≤ 8) (hab : b - a ≤ 4) : Part s a b where
  size := by rw [ByteArray.size_extract]; omega
  small := hab
  dig := by
    rw [Lib.extract_data]
    have e : (s.data.toList.drop a).take (b - a) = ((s.data.toList.take 8).drop a).take (b - a) := by
      rw [List.drop_take, List.take_take, Nat.min_eq_left (by omega)]
    rw [e]
    exact digitsB_take _ _ (digitsB_drop _ _ h)
theorem part_high (s : ByteArray) (a b : Nat) (hn : s.size = 15) (h : digitsB (s.data.toList.drop 9) = true) (ha : 9 ≤ a) (hb : b ≤ 15) (hab : b - a ≤ 4) : Part s a b where
  size := by rw [ByteArray.size_extract]; omega
  small := hab
  dig := by
    rw [Lib.extract_data]
    have e : s.data.toList.drop a = (s.data.toList.drop 9).drop (a - 9) := by
      rw [List.drop_drop]; congr 1; omega
    rw [e]
    exact digitsB_take _ _ (digitsB_drop _ _ h)

theorem Parse_any (s : ByteArray) (w : World) :
    Calls Tryd.prog 29 #[.string s] w fun e w' => e = .returned (.tuple #[.int .i64 (parseE s.data.toList).1, .int .i64 (parseE s.data.toList).2]) ∧ Below w.heap.size w w' := by
  cases hf : formB s.data.toList
  · have e : parseE s.data.toList = (0, 14) := by unfold parseE; rw [hf]; rfl
    rw [e]
    exact Parse_no s w hf
  · obtain ⟨hl, hd1, hd2⟩ := form_parts _ hf
    have hn : s.size = 15 := by rw [← hl]; simp
    have e : parseE s.data.toList = minE (pv s 0 4) (pv s 4 6) (pv s 6 8) (pv s 9 11) (pv s 11 13) := by
      unfold parseE pv
      rw [hf]
      simp only [Lib.extract_data, if_true, List.drop_zero]
    rw [e]
    exact Parse_yes s w hf hn (part_low s 0 4 hn hd1 (by omega) (by omega)) (part_low s 4 6 hn hd1 (by omega) (by omega)) (part_low s 6 8 hn hd1 (by omega) (by omega)) (part_high s 9 11 hn hd2 (by omega) (by omega) (by omega)) (part_high s 11 13 hn hd2 (by omega) (by omega) (by omega))

end Go.Proofs.YtbohogaopfkmlaaDoor

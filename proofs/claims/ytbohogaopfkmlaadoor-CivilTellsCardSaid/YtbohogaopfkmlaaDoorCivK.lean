/- Walks of package civil: a text's digits and what they are worth. -/
import Derived.Test.YtbohogaopfkmlaaDoorCivJ
namespace Go.Proofs.YtbohogaopfkmlaaDoor
open Go.RowKit

/-- is it a digit's byte? -/
def digit (c : UInt8) : Bool := decide (48 ≤ (c.toNat : Int)) && decide ((c.toNat : Int) ≤ 57)
def digitsB (l : List UInt8) : Bool := l.all digit
/-- what digits are worth. -/
def val (l : List UInt8) : Int := l.foldl (fun n c => n * 10 + ((c.toNat : Int) - 48)) 0
theorem val_snoc (l : List UInt8) (c : UInt8) : val (l ++ [c]) = val l * 10 + ((c.toNat : Int) - 48) := by simp [val]
theorem digitsB_snoc (l : List UInt8) (c : UInt8) : digitsB (l ++ [c]) = (digitsB l && digit c) := by simp [digitsB]
theorem take_snoc (s : ByteArray) (k : Nat) (h : k < s.size) : s.data.toList.take (k + 1) = s.data.toList.take k ++ [s[k]] := by
  rw [List.take_succ_eq_append_getElem (by simpa using h)]; rfl
theorem digit_iff (c : UInt8) : digit c = true ↔ 48 ≤ (c.toNat : Int) ∧ (c.toNat : Int) ≤ 57 := by simp [digit]

theorem digit_low (c : UInt8) (h : (c.toNat : Int) < 48) : digit c = false := by unfold digit; simp only [Bool.and_eq_false_iff, decide_eq_false_iff_not]; omega
theorem digit_high (c : UInt8) (h : 57 < (c.toNat : Int)) : digit c = false := by unfold digit; simp only [Bool.and_eq_false_iff, decide_eq_false_iff_not]; omega
theorem digit_in (c : UInt8) (h1 : ¬ (c.toNat : Int) < 48) (h2 : ¬ 57 < (c.toNat : Int)) : digit c = true := by rw [digit_iff]; omega
theorem digitsB_not (s : ByteArray) (k : Nat) (h : k < s.size) (hd : digit s[k] = false) : false = digitsB s.data.toList := by
  symm
  unfold digitsB
  rw [Bool.eq_false_iff]
  intro ha
  rw [List.all_eq_true] at ha
  have := ha s[k] (by simp [ByteArray.getElem_eq_getElem_data])
  rw [hd] at this
  cases this
theorem digitsB_next (s : ByteArray) (k : Nat) (h : k < s.size) (hp : digitsB (s.data.toList.take k) = true) (hd : digit s[k] = true) : digitsB (s.data.toList.take (k + 1)) = true := by
  rw [take_snoc s k h, digitsB_snoc, hp, hd]; rfl
theorem digitsB_all (s : ByteArray) (k : Nat) (h : ¬ k < s.size) (hp : digitsB (s.data.toList.take k) = true) : true = digitsB s.data.toList := by
  rw [List.take_of_length_le (by simp; omega)] at hp
  exact hp.symm

set_option maxHeartbeats 400000 in
theorem areDigits_any (s : ByteArray) (w : World) (hs : s.size ≤ 1000000) :
    Calls Tryd.prog 48 #[.string s] w fun e w' => e = .returned (.bool (digitsB s.data.toList)) ∧ w = w' := by
  go_enter Tryd.func48, Tryd.ntmps48
  go_wp2_with fail
  go_loop [6] (fun i => ∃ k : Nat, k ≤ s.size ∧ i = .int .i64 k ∧ Hid (digitsB (s.data.toList.take k) = true)) (fun i => s.size - (intOf i).toNat)
  case atStart => exact ⟨0, Nat.zero_le _, rfl, rfl⟩
  case round =>
    obtain ⟨k, hk, rfl, hd⟩ := hrel
    by_cases hlt : k < s.size
    · by_cases c1 : (s[k].toNat : Int) < 48
      · have HF := hide (digitsB_not s k hlt (digit_low _ c1))
        go_wp2
        go_ret
        exact ⟨ret_bool HF.out, rfl⟩
      · by_cases c2 : 57 < (s[k].toNat : Int)
        · have HF := hide (digitsB_not s k hlt (digit_high _ c2))
          go_wp2
          go_ret
          exact ⟨ret_bool HF.out, rfl⟩
        · have HN := hide (digitsB_next s k hlt hd.out (digit_in _ c1 c2))
          go_wp2
          go_round
          case rel => exact ⟨k + 1, by omega, by go_num, HN⟩
          case measure => simp [intOf]; omega
    · have HF := hide (digitsB_all s k hlt hd.out)
      go_wp2
      go_ret
      exact ⟨ret_bool HF.out, rfl⟩

theorem fold_bd (l : List UInt8) : ∀ a : Int, 0 ≤ a → digitsB l = true → 0 ≤ l.foldl (fun n c => n * 10 + ((c.toNat : Int) - 48)) a ∧ l.foldl (fun n c => n * 10 + ((c.toNat : Int) - 48)) a < (a + 1) * 10 ^ l.length := by
  induction l with
  | nil => intro a h _; simp; omega
  | cons c l ih =>
    intro a h hd
    simp only [digitsB, List.all_cons, Bool.and_eq_true] at hd
    have hc := (digit_iff c).1 hd.1
    have := ih (a * 10 + ((c.toNat : Int) - 48)) (by omega) hd.2
    rw [List.foldl_cons, List.length_cons, Int.pow_succ]
    refine ⟨this.1, Int.lt_of_lt_of_le this.2 ?_⟩
    have hp : (0 : Int) ≤ 10 ^ l.length := Int.le_of_lt (Int.pow_pos (by decide))
    have : (a * 10 + ((c.toNat : Int) - 48) + 1) * 10 ^ l.length ≤ ((a + 1) * 10) * 10 ^ l.length := Int.mul_le_mul_of_nonneg_right (by omega) hp
    have e : (a + 1) * (10 ^ l.length * 10) = ((a + 1) * 10) * 10 ^ l.length := by
      rw [Int.mul_assoc, Int.mul_comm 10]
    rw [e]
    exact this
theorem val_bd (l : List UInt8) (h : digitsB l = true) : 0 ≤ val l ∧ val l < 10 ^ l.length := by
  have := fold_bd l 0 (by decide) h
  simpa [val] using this
theorem val_le (l : List UInt8) (h : digitsB l = true) (hl : l.length ≤ 3) : 0 ≤ val l ∧ val l ≤ 999 := by
  have := val_bd l h
  have h4 : l.length = 0 ∨ l.length = 1 ∨ l.length = 2 ∨ l.length = 3 := by omega
  rcases h4 with e | e | e | e <;> rw [e] at this <;> simp at this <;> omega
theorem val_4 (l : List UInt8) (h : digitsB l = true) (hl : l.length = 4) : 0 ≤ val l ∧ val l ≤ 9999 := by
  have := val_bd l h
  rw [hl] at this
  simp at this; omega
theorem val_2 (l : List UInt8) (h : digitsB l = true) (hl : l.length = 2) : 0 ≤ val l ∧ val l ≤ 99 := by
  have := val_bd l h
  rw [hl] at this
  simp at this; omega
theorem digitsB_take (l : List UInt8) (k : Nat) (h : digitsB l = true) : digitsB (l.take k) = true := by
  unfold digitsB at *
  rw [List.all_eq_true] at *
  exact fun x hx => h x (List.mem_of_mem_take hx)
theorem digitsB_drop (l : List UInt8) (k : Nat) (h : digitsB l = true) : digitsB (l.drop k) = true := by
  unfold digitsB at *
  rw [List.all_eq_true] at *
  exact fun x hx => h x (List.mem_of_mem_drop hx)
theorem digitsB_at (s : ByteArray) (k : Nat) (h : k < s.size) (hd : digitsB s.data.toList = true) : 48 ≤ (s[k].toNat : Int) ∧ (s[k].toNat : Int) ≤ 57 := by
  unfold digitsB at hd
  rw [List.all_eq_true] at hd
  exact (digit_iff _).1 (hd s[k] (by simp [ByteArray.getElem_eq_getElem_data]))

set_option maxHeartbeats 400000 in
theorem value_any (s : ByteArray) (w : World) (hs : s.size ≤ 4) (hd : digitsB s.data.toList = true) :
    Calls Tryd.prog 41 #[.string s] w fun e w' => e = .returned (.int .i64 (val s.data.toList)) ∧ w = w' := by
  have HD := hide hd
  clear hd
  go_enter Tryd.func41, Tryd.ntmps41
  go_wp2_with fail
  go_loop [3, 7] (fun n i => ∃ k : Nat, k ≤ s.size ∧ i = .int .i64 k ∧ n = .int .i64 (val (s.data.toList.take k))) (fun _ i => s.size - (intOf i).toNat)
  case atStart => exact ⟨0, Nat.zero_le _, rfl, rfl⟩
  case round =>
    obtain ⟨k, hk, rfl, rfl⟩ := hrel
    by_cases hlt : k < s.size
    · have hc := digitsB_at s k hlt HD.out
      have hv := val_le _ (digitsB_take _ k HD.out) (by simp; omega)
      have HN : Hid (val (s.data.toList.take (k + 1)) = val (s.data.toList.take k) * 10 + ((s[k].toNat : Int) - 48)) := by rw [take_snoc s k hlt]; exact val_snoc _ _
      generalize val (s.data.toList.take k) = V at *
      go_wp2
      go_round
      case rel => exact ⟨k + 1, by omega, by go_num, by rw [HN.out]⟩
      case measure => simp [intOf]; omega
    · have HF : Hid (val (s.data.toList.take k) = val s.data.toList) := by rw [List.take_of_length_le (by simp; omega)]; rfl
      go_wp2
      go_ret
      exact ⟨ret_int HF.out, rfl⟩
end Go.Proofs.YtbohogaopfkmlaaDoor

/- Walks of the document's own answers, layer 1: the minute of a text. -/
import Derived.Test.YtbohogaopfkmlaaDoorRefC
import Derived.Test.YtbohogaopfkmlaaDoorCivM
namespace Go.Proofs.YtbohogaopfkmlaaDoor
open Go.RowKit

theorem mem_getD (l : List UInt8) (k : Nat) (h : k < l.length) : l.getD k 0 = l[k] := by
  rw [List.getD_eq_getElem?_getD, List.getElem?_eq_getElem h]; rfl
theorem form_fail (l : List UInt8) (hl : l.length = 15) (k : Nat) (hk : k < 15) (h8 : k ≠ 8) (hd : digit (l.getD k 0) = false) : formB l = false := by
  rw [Bool.eq_false_iff]
  intro hf
  obtain ⟨_, d1, d2⟩ := form_parts l hf
  rw [mem_getD l k (by omega)] at hd
  unfold digitsB at d1 d2
  rw [List.all_eq_true] at d1 d2
  by_cases h : k < 8
  · have : l[k] ∈ l.take 8 := by
      rw [List.mem_iff_getElem]
      exact ⟨k, by simp; omega, by simp⟩
    rw [d1 _ this] at hd; cases hd
  · have : l[k] ∈ l.drop 9 := by
      rw [List.mem_iff_getElem]
      exact ⟨k - 9, by simp; omega, by simp [show 9 + (k - 9) = k by omega]⟩
    rw [d2 _ this] at hd; cases hd
theorem form_ok (l : List UInt8) (hl : l.length = 15) (h8 : l.getD 8 0 = 84) (h13 : l.drop 13 = [48, 48]) (ha : ∀ k, k < 15 → k ≠ 8 → digit (l.getD k 0) = true) : formB l = true := by
  unfold formB
  have d1 : digitsB (l.take 8) = true := by
    unfold digitsB
    rw [List.all_eq_true]
    intro x hx
    rw [List.mem_iff_getElem] at hx
    obtain ⟨i, hi, rfl⟩ := hx
    simp at hi
    have := ha i (by omega) (by omega)
    rw [mem_getD l i (by omega)] at this
    simpa using this
  have d2 : digitsB (l.drop 9) = true := by
    unfold digitsB
    rw [List.all_eq_true]
    intro x hx
    rw [List.mem_iff_getElem] at hx
    obtain ⟨i, hi, rfl⟩ := hx
    simp at hi
    have := ha (9 + i) (by omega) (by omega)
    rw [mem_getD l (9 + i) (by omega)] at this
    simpa using this
  rw [d1, d2, h13, h8, hl]
  rfl

/-- the worth of the k-th byte. -/
def dv (l : List UInt8) (k : Nat) : Int := ((l.getD k 0).toNat : Int) - 48
def arr (l : List UInt8) : Nat → Array Value
  | 0 => #[.int .i64 0, .int .i64 0, .int .i64 0, .int .i64 0, .int .i64 0, .int .i64 0, .int .i64 0, .int .i64 0, .int .i64 0, .int .i64 0, .int .i64 0, .int .i64 0, .int .i64 0, .int .i64 0, .int .i64 0]
  | k + 1 => (arr l k).setIfInBounds k (.int .i64 (dv l k))
theorem arr_size (l : List UInt8) : ∀ k, (arr l k).size = 15
  | 0 => rfl
  | k + 1 => by rw [arr, Array.size_setIfInBounds, arr_size l k]
theorem arr_done (l : List UInt8) : ∀ (k j : Nat), j < k → k ≤ 15 → (arr l k)[j]? = some (.int .i64 (dv l j))
  | 0, j, h, _ => by omega
  | k + 1, j, h, hk => by
    rw [arr, Array.getElem?_setIfInBounds]
    by_cases e : k = j
    · subst e; rw [if_pos rfl, if_pos (by rw [arr_size]; omega)]
    · rw [if_neg e]; exact arr_done l k j (by omega) (by omega)
theorem arr_some (l : List UInt8) (k : Nat) (hk : k < 15) : ((arr l k)[k]?).isSome = true := by
  rw [Array.getElem?_eq_getElem (by rw [arr_size]; exact hk)]; rfl
theorem val_fields (l : List UInt8) (hl : l.length = 15) : val (l.take 4) = 1000 * dv l 0 + 100 * dv l 1 + 10 * dv l 2 + dv l 3 ∧ val ((l.drop 4).take 2) = 10 * dv l 4 + dv l 5 ∧ val ((l.drop 6).take 2) = 10 * dv l 6 + dv l 7 ∧
    val ((l.drop 9).take 2) = 10 * dv l 9 + dv l 10 ∧ val ((l.drop 11).take 2) = 10 * dv l 11 + dv l 12 := by
  match l, hl with
  | [a0, a1, a2, a3, a4, a5, a6, a7, a8, a9, a10, a11, a12, a13, a14], _ =>
    simp [val, dv]
    omega
theorem dv_bd (l : List UInt8) (k : Nat) (h : digit (l.getD k 0) = true) : 0 ≤ dv l k ∧ dv l k ≤ 9 := by
  rw [digit_iff] at h
  unfold dv
  omega

set_option maxHeartbeats 400000 in
theorem rParse_long (s : ByteArray) (w : World) (hn : s.size ≠ 15) :
    Calls Tryd.prog 30 #[.string s] w fun e w' => e = .returned (.tuple #[.int .i64 0, .int .i64 14]) ∧ Below w.heap.size w w' := by
  have h15 : ((s.size : Int) != 15) = true := by rw [bne_iff_ne]; omega
  have h15' : ((s.size : Int) == 15) = false := by rw [beq_eq_false_iff_ne]; omega
  go_enter Tryd.func30, Tryd.ntmps30
  go_wp2_with fail
  go_ret2
  exact ⟨rfl, Below.refl _ _⟩
set_option maxHeartbeats 400000 in
theorem rParse_mid (s : ByteArray) (w : World) (hn : s.size = 15) (ht : (((s[8]'(by omega)).toNat : Int) != 84) = true) :
    Calls Tryd.prog 30 #[.string s] w fun e w' => e = .returned (.tuple #[.int .i64 0, .int .i64 14]) ∧ Below w.heap.size w w' := by
  go_enter Tryd.func30, Tryd.ntmps30
  go_wp2_with fail
  go_ret2
  exact ⟨rfl, Below.refl _ _⟩
set_option maxHeartbeats 400000 in
theorem rParse_end (s : ByteArray) (w : World) (hn : s.size = 15) (ht : (((s[8]'(by omega)).toNat : Int) != 84) = false) (he : ((s.extract 13 15).toList == [48, 48]) = false) :
    Calls Tryd.prog 30 #[.string s] w fun e w' => e = .returned (.tuple #[.int .i64 0, .int .i64 14]) ∧ Below w.heap.size w w' := by
  go_enter Tryd.func30, Tryd.ntmps30
  go_wp2_with fail
  go_ret2
  exact ⟨rfl, Below.refl _ _⟩

end Go.Proofs.YtbohogaopfkmlaaDoor

/- SpanRows: every row, every turn, every minute. -/
import Derived.Test.YtncciofckfbcaaaSpRow
import Derived.Test.YtncciofckfbcaaaSpRowsB
namespace Go.Proofs.Ytncciofckfbcaaa
open Go.ChangeShapes Go.WideShapes Go.ChangeAt Go.RowKit Go.Joins Spn

section
variable {H : Type} {enc : TypeId × Value → H}
theorem open_spans_cap {W : World} {A : Option Addr} {n c base : Nat} {sp : Nat → Bool} {hd : Bool} {d : DataW H} {p : List MemPlace} (h : DataW.Trod enc Try.prog W base sp hd 24 (.slice A n c) d p) : n ≤ c ∧ c ≤ maxLen := by
  obtain ⟨fuel, hf⟩ := h
  rcases Go.Deep.open_slice_pairs Try.underlying24 Try.underlying23 span_cells rfl rfl int_cells int_cells hf with ⟨hcs, _⟩ | ⟨a, len, cap, m, k, V0, V1, D0, D1, P0, P1, hcs, _, hl, hm, _⟩
  · simp [Value.cells] at hcs
    obtain ⟨rfl, rfl, rfl⟩ := hcs
    exact ⟨Nat.le_refl _, Nat.zero_le _⟩
  · simp [Value.cells] at hcs
    obtain ⟨rfl, rfl, rfl⟩ := hcs
    exact ⟨hl, hm⟩
end

set_option maxRecDepth 100000 in
set_option maxHeartbeats 1000000 in
theorem rows_long (A : Option Addr) (n c : Nat) (t m : Int) (w : World) (hn : 20 < n) (hm : n ≤ maxLen) :
    Calls Try.prog 5 #[.slice A n c, .int .u8 t, .int .u16 m] w fun e w' => e = .returned (.bool true) ∧ Below w.heap.size w w' := by
  unfold maxLen at hm
  go_enter Try.func5, Try.ntmps5
  go_wp2_with fail
  refine (known_any _).mono ?_
  rintro e w1 ⟨rfl, hb1⟩
  have f1 : decide (20 < (n : Int)) = true := decide_eq_true (by omega)
  go_wp2_with fail
  go_ret
  exact ⟨rfl, hb1⟩
set_option maxRecDepth 100000 in
set_option maxHeartbeats 1000000 in
theorem rows_nil (A : Option Addr) (c : Nat) (t m : Int) (w : World) :
    Calls Try.prog 5 #[.slice A 0 c, .int .u8 t, .int .u16 m] w fun e w' => e = .returned (.bool true) ∧ Below w.heap.size w w' := by
  go_enter Try.func5, Try.ntmps5
  go_wp2_with fail
  refine (known_any _).mono ?_
  rintro e w1 ⟨rfl, hb1⟩
  go_wp2_with fail
  go_ret
  exact ⟨rfl, hb1⟩
theorem rows_any (A : Option Addr) (n c : Nat) (l : List Sp) (t m : Int) (w : World) (hr : Row w A l) (hn : n = l.length) (_ : l.length ≤ maxLen) (hc : n ≤ c ∧ c ≤ maxLen) (ht0 : 0 ≤ t) (ht1 : t ≤ 255) (hm0 : 0 ≤ m) (hm1 : m ≤ 65535) :
    Calls Try.prog 5 #[.slice A n c, .int .u8 t, .int .u16 m] w fun e w' => e = .returned (.bool true) ∧ Below w.heap.size w w' := by
  by_cases h : 20 < n
  · exact rows_long A n c t m w h (by omega)
  · by_cases h0 : n = 0
    · rw [h0]; exact rows_nil A c t m w
    · obtain ⟨b, off, rfl, hb, hcl⟩ := hr (by rintro rfl; simp at hn; omega)
      have e1 := Int.emod_nonneg t (show (n : Int) ≠ 0 by omega)
      have e2 := Int.emod_lt_of_pos t (show (0 : Int) < (n : Int) by omega)
      obtain ⟨k, hk⟩ : ∃ k : Nat, t % (n : Int) = (k : Int) := ⟨(t % (n : Int)).toNat, by omega⟩
      have hkl : k < l.length := by omega
      have hcut := cutL_len l (m, m + 10)
      have hcan := canon_len l
      refine rows_main b off n c k t m l _ _ _ w hb hcl hn.symm (by omega) (by omega) hc.1 hc.2 ht0 ht1 hm0 hm1 hk hkl rfl ?_ rfl ?_ rfl ?_ ?_ ?_ ?_
      · simp only [List.length_append, List.length_drop, List.length_take, List.length_cons, List.length_nil]; omega
      · omega
      · omega
      · exact canon_ext _ _ fun x => has_rot l k hkl x
      · exact canon_ext _ _ fun x => has_cut l _ x
      · exact canon_canon l

end Go.Proofs.Ytncciofckfbcaaa

/- SpansRules of every input: its four ways together. -/
import Derived.Test.YtkjkegjekfebpaaSnRules1
import Derived.Test.YtkjkegjekfebpaaSnRules2
import Derived.Test.YtkjkegjekfebpaaSnRules3
import Derived.Test.YtkjkegjekfebpaaSnRules4
namespace Go.Proofs.Ytkjkegjekfebpaa
open Go.RowKit Spn

set_option maxHeartbeats 800000 in
theorem rules_many (A : Option Addr) (c : Nat) (l : List Sp) (x1 y1 x2 y2 m : Int) (w : World) (hn : l.length ≤ maxLen) (hl : 30 < l.length) :
    Calls Try.prog 5 #[.slice A l.length c, .agg #[.int .i64 x1, .int .i64 y1], .agg #[.int .i64 x2, .int .i64 y2], .int .i64 m] w fun e w' => e = .returned (.bool true) ∧ Below w.heap.size w w' := by
  unfold maxLen at hn
  have HB := more (more (start w) (.cells #[.int .i64 x1, .int .i64 y1] 25)) (.cells #[.int .i64 x2, .int .i64 y2] 25)
  go_enter Try.func5, Try.ntmps5
  go_wp2_with fail
  refine (known_any _).mono ?_
  rintro e w1 ⟨rfl, hb⟩
  replace HB := andthen HB hb
  go_wp2_with fail
  go_ret
  exact ⟨rfl, HB⟩
theorem rules_law (A : Option Addr) (n c : Nat) (l : List Sp) (x1 y1 x2 y2 m : Int) (w : World) (h : Row w A l) (he : n = l.length) (hn : l.length ≤ maxLen) (hm0 : -9223372036854775808 ≤ m) (hm1 : m ≤ 9223372036854775807) :
    Calls Try.prog 5 #[.slice A n c, .agg #[.int .i64 x1, .int .i64 y1], .agg #[.int .i64 x2, .int .i64 y2], .int .i64 m] w fun e w' => e = .returned (.bool true) ∧ Below w.heap.size w w' := by
  subst he
  by_cases hl : 30 < l.length
  · exact rules_many A c l x1 y1 x2 y2 m w hn hl
  · have hw : m ≤ 9223372036854775806 → IntKind.i64.wrap (m + 1) = m + 1 := fun hh => IntWalk.i64_in _ (by omega)
    have f := facts l x1 y1 x2 y2 m (IntKind.i64.wrap (m + 1)) (by omega) (fun ok => by
      apply hw
      unfold Ok at ok
      simp only at ok
      omega) (fun g1 g2 => hw (by omega))
    cases b0 : inL (canon l) m <;> cases b1 : inB (x1, y1) m <;> rw [b0, b1] at f
    · exact rules_ff A c l x1 y1 x2 y2 m _ _ _ _ _ _ w h hl rfl rfl rfl rfl rfl rfl f
    · exact rules_ft A c l x1 y1 x2 y2 m _ _ _ _ _ _ w h hl rfl rfl rfl rfl rfl rfl f
    · exact rules_tf A c l x1 y1 x2 y2 m _ _ _ _ _ _ w h hl rfl rfl rfl rfl rfl rfl f
    · exact rules_tt A c l x1 y1 x2 y2 m _ _ _ _ _ _ w h hl rfl rfl rfl rfl rfl rfl f
end Go.Proofs.Ytkjkegjekfebpaa

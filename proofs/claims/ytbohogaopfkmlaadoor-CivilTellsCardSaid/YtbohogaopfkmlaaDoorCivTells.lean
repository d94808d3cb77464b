/- CivilTells walked: of every date, number, time its day, minute, text, or what is wrong, as the document's own answers have it: the three cases of the minute put together. -/
import Derived.Test.YtbohogaopfkmlaaDoorCivTellsY
import Derived.Test.YtbohogaopfkmlaaDoorCivTellsL
import Derived.Test.YtbohogaopfkmlaaDoorCivTellsH
namespace Go.Proofs.YtbohogaopfkmlaaDoor
open Go.RowKit

theorem tells_walk (y m d n h i x : Int) (w : World) (ht : Tab w) (_y1 : -9223372036854775808 ≤ y) (_y2 : y ≤ 9223372036854775807) (_m1 : -9223372036854775808 ≤ m) (_m2 : m ≤ 9223372036854775807) (_d1 : -9223372036854775808 ≤ d) (_d2 : d ≤ 9223372036854775807)
    (n1 : -9223372036854775808 ≤ n) (n2 : n ≤ 9223372036854775807) (_h1 : -9223372036854775808 ≤ h) (_h2 : h ≤ 9223372036854775807) (_i1 : -9223372036854775808 ≤ i) (_i2 : i ≤ 9223372036854775807) (_x1 : -9223372036854775808 ≤ x) (_x2 : x ≤ 9223372036854775807) :
    Calls Tryd.prog 3 #[.agg #[.int .i64 y, .int .i64 m, .int .i64 d], .int .i64 n, .int .i64 h, .int .i64 i, .int .i64 x] w fun e w' => e = .returned (.bool true) ∧ Below w.heap.size w w' := by
  have hn : I64 n := ⟨n1, n2⟩
  obtain ⟨a, c, q1⟩ : ∃ a c, numE y m d = (a, c) := ⟨_, _, rfl⟩
  obtain ⟨Y, M, D, C, q2⟩ : ∃ Y M D C, dateQ n = (Y, M, D, C) := ⟨_, _, _, _, rfl⟩
  obtain ⟨a', c', q3⟩ : ∃ a c, minE y m d h i = (a, c) := ⟨_, _, rfl⟩
  by_cases g1 : x < 0
  · exact tells_l y m d n h i x a c Y M D C a' c' w ht hn g1 q1 q2 q3
  · by_cases g2 : 52596000 ≤ x
    · exact tells_h y m d n h i x a c Y M D C a' c' w ht hn g2 q1 q2 q3
    · exact tells_yes y m d n h i x a c Y M D C a' c' _ _ _ w ht hn (by omega) (by omega) q1 q2 q3 ⟨rfl, rfl, rfl⟩

end Go.Proofs.YtbohogaopfkmlaaDoor

/- ScribeRows's row: its closed cells are what the program forces. -/
import Derived.Test.YtlmdceeeahnkcaaGreatDoorRows
import Derived.Test.YtlmdceeeahnkcaaGreatDoorChecked
import Derived.JoinedOf
import Derived.KernelRfl
namespace Go.Proofs.YtlmdceeeahnkcaaGreatDoor.PRo
open Go
set_option maxHeartbeats 8000000 in
set_option maxRecDepth 100000 in
theorem closed : joinedFacts Tryz.pinned.checked.prog 6 Tryz.f6 Rows.scribeRowsSpec Rows.scribeRowsRow = true := by
  unfold joinedFacts
  simp only [Bool.and_eq_true]
  repeat' apply And.intro
  all_goals (as_aux_lemma => kernel_rfl)

end Go.Proofs.YtlmdceeeahnkcaaGreatDoor.PRo

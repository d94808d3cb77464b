/- ScribeSpoilt's row: its closed cells are what the program forces. -/
import Derived.Test.YtlmdceeeahnkcaaGreatDoorRows
import Derived.Test.YtlmdceeeahnkcaaGreatDoorChecked
import Derived.JoinedOf
import Derived.KernelRfl
namespace Go.Proofs.YtlmdceeeahnkcaaGreatDoor.PSp
open Go
set_option maxHeartbeats 8000000 in
set_option maxRecDepth 100000 in
theorem closed : joinedFacts Tryz.pinned.checked.prog 4 Tryz.f4 Rows.scribeSpoiltSpec Rows.scribeSpoiltRow = true := by
  unfold joinedFacts
  simp only [Bool.and_eq_true]
  repeat' apply And.intro
  all_goals (as_aux_lemma => kernel_rfl)

end Go.Proofs.YtlmdceeeahnkcaaGreatDoor.PSp

/- EventReads's row: its closed cells are what the program forces. -/
import Derived.Test.YtgdjeddelcfgeaaGreatDoorRows
import Derived.Test.YtgdjeddelcfgeaaGreatDoorChecked
import Derived.JoinedOf
import Derived.KernelRfl
namespace Go.Proofs.YtgdjeddelcfgeaaGreatDoor.PRea
open Go
set_option maxHeartbeats 8000000 in
set_option maxRecDepth 100000 in
theorem closed : joinedFacts Tryz.pinned.checked.prog 4 Tryz.f4 Rows.eventReadsSpec Rows.eventReadsRow = true:=by
 unfold joinedFacts
 simp only [Bool.and_eq_true]
 repeat' apply And.intro
 all_goals (as_aux_lemma => kernel_rfl)

end Go.Proofs.YtgdjeddelcfgeaaGreatDoor.PRea

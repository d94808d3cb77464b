/- CalBack's row: its closed cells are what the program forces. -/
import Derived.Test.YtfecnkhoojnkbaaGreatDoorRows
import Derived.Test.YtfecnkhoojnkbaaGreatDoorChecked
import Derived.JoinedOf
import Derived.KernelRfl
set_option maxHeartbeats 8000000
set_option maxRecDepth 100000
namespace Go.Proofs.YtfecnkhoojnkbaaGreatDoor.PBac
open Go
theorem closed : joinedFacts Tryz.pinned.checked.prog 5 Tryz.f5 Rows.calBackSpec Rows.calBackRow = true:=by
 unfold joinedFacts
 simp only [Bool.and_eq_true]
 repeat' apply And.intro
 all_goals (as_aux_lemma => kernel_rfl)
end Go.Proofs.YtfecnkhoojnkbaaGreatDoor.PBac

import Derived.Test.YtfecnkhoojnkbaaGreatDoorRows
import Derived.JoinedOf
set_option maxHeartbeats 8000000
set_option maxRecDepth 1000000
namespace Go.Proofs.YtfecnkhoojnkbaaGreatDoor.PPar
open Go
theorem closed:joinedFacts Tryz.pinned.checked.prog 4 Tryz.f4 Rows.calParsesSpec Rows.calParsesRow=true:=by
 unfold joinedFacts;simp only [Bool.and_eq_true]
 repeat' apply And.intro
 all_goals (as_aux_lemma=>kernel_rfl)
end Go.Proofs.YtfecnkhoojnkbaaGreatDoor.PPar

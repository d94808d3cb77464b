/- What every row of this seat shares: from the listed tables to what the walks ask; a world that meets the condition. -/
import Derived.Test.YtbohogaopfkmlaaDoorRows
import Derived.Test.YtbohogaopfkmlaaDoorCivJ
import Derived.ProofKit
import Derived.LaidMore
import Derived.OpenShut
import Derived.Stop.Joined
import Derived.Stop.LaidErr
import Derived.Lib.LaidTab
namespace Go.Proofs.YtbohogaopfkmlaaDoor
open Go.ChangeShapes Go.WideShapes Go.ChangeAt Go.RowKit

theorem own : ownKnob Tryd.prog.godebug = none := by kernel_rfl
/-- the tables that the rows list. -/
def tabs : List (String × DataW Unit) := Rows.civilMonthsRow.laid
theorem pow_type : (Tryd.prog.globals[0]?).map (·.type) = some 102 := by kernel_rfl
theorem pow_cellsE : Tryd.prog.cellsOf 89 = 1 := by kernel_rfl
theorem pow_cellsT : Tryd.prog.cellsOf 102 = 20 := by kernel_rfl
theorem pow_tab : (Rows.laid_internal_strconv_uint64pow10 : DataW Unit) = Lib.tabData .u64 Lib.pow10Tab := by kernel_rfl
theorem tab_of_laid {W : World} (h : laidMetH Tryd.prog tabs W) : Tab W := by
  rw [MakeChecks.laidMetH_plain _ _ _ (by kernel_rfl)] at h
  have h2 : laidMet Tryd.prog [("internal/strconv.uint64pow10", Lib.tabData .u64 Lib.pow10Tab)] W := by
    rw [← pow_tab]
    exact laidMet.tail (laidMet.tail h)
  exact Lib.tabIs_of_head tab_global pow_type Tryd.underlying102 Tryd.underlying89 pow_cellsE pow_cellsT h2
theorem door_met (os : Os) (args : Array Value) : laidMetH Tryd.prog tabs ((World.doorLaid Tryd.prog 400 os).forCall (fun _ _ => 0) ⟨#[], args, []⟩).memory :=
  laidMetH_of_parts3 (fuel := 8) (laidMet_of_run' 8 (by kernel_rfl) (by kernel_rfl)) (by kernel_rfl) (by kernel_rfl)

end Go.Proofs.YtbohogaopfkmlaaDoor

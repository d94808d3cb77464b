/- What every row of this seat shares: from the listed tables to what the walks ask; a world that meets the condition. -/
import Derived.Test.YtbohogaopfkmlaaDoorRows
import Derived.Test.YtbohogaopfkmlaaDoorCivJ
import Derived.ProofKit
import Derived.LaidMore
import Derived.OpenShut
import Derived.Stop.Joined
import Derived.Stop.LaidErr
import Derived.Lib.LaidTab
import Derived.Lib.SmallJoins
namespace Go.Proofs.YtbohogaopfkmlaaDoor
open Go.ChangeShapes Go.WideShapes Go.ChangeAt Go.RowKit Go.Joins

theorem own : ownKnob Tryd.prog.godebug = none := by kernel_rfl
/-- the tables that the rows list. -/
def tabs : List (String × DataW Unit) := Rows.civilMonthsRow.laid
theorem pow_type : (Tryd.prog.globals[0]?).map (·.type) = some 102 := by kernel_rfl
theorem pow_cellsE : Tryd.prog.cellsOf 89 = 1 := by kernel_rfl
theorem pow_cellsT : Tryd.prog.cellsOf 102 = 20 := by kernel_rfl
theorem pow_tab : (Rows.laid_internal_strconv_uint64pow10 : DataW Unit) = Lib.tabData .u64 Lib.pow10Tab := by kernel_rfl
theorem tab_of_laid {W : World} (h : laidMetH Tryd.prog tabs W) : Tab W := by
  rw [MakeChecks.laidMetH_plain _ _ _ (by kernel_rfl)] at h
  have h2 : laidMet Tryd.prog [("internal/strconv.uint64pow10", Lib.tabData .u64 Lib.pow10Tab)] W := by
    rw [← pow_tab]
    exact laidMet.tail (laidMet.tail h)
  exact Lib.tabIs_of_head tab_global pow_type Tryd.underlying102 Tryd.underlying89 pow_cellsE pow_cellsT h2
theorem door_met (os : Os) (args : Array Value) : laidMetH Tryd.prog tabs ((World.doorLaid Tryd.prog 400 os).forCall (fun _ _ => 0) ⟨#[], args, []⟩).memory :=
  laidMetH_of_parts3 (fuel := 8) (laidMet_of_run' 8 (by kernel_rfl) (by kernel_rfl)) (by kernel_rfl) (by kernel_rfl)

theorem date_cells : Tryd.prog.cellsOf 23 = 3 := by kernel_rfl
section
variable {H : Type} {enc : TypeId × Value → H}
theorem shut_date {w : World} {base : Nat} {spare : Nat → Bool} {held : Bool} {y m d : Int} (wy : (Lit.int .i64 y).wf = true) (wm : (Lit.int .i64 m).wf = true) (wd : (Lit.int .i64 d).wf = true) :
    DataW.Trod enc Tryd.prog w base spare held 23 (.agg #[.int .i64 y, .int .i64 m, .int .i64 d]) (.agg [.lit (.int .i64 y), .lit (.int .i64 m), .lit (.int .i64 d)]) [] :=
  shut_agg3 (y0 := (.lit (.int .i64 y), [])) (y1 := (.lit (.int .i64 m), [])) (y2 := (.lit (.int .i64 d), [])) Tryd.underlying23 (by kernel_rfl) date_cells
    ⟨1, by simp [DataW.trod, Tryd.underlying3, wy]⟩ ⟨1, by simp [DataW.trod, Tryd.underlying3, wm]⟩ ⟨1, by simp [DataW.trod, Tryd.underlying3, wd]⟩
end

end Go.Proofs.YtbohogaopfkmlaaDoor

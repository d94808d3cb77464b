/- What every row of layer 9 shares (plain statements): from the world's shape to what the walks ask. -/
import Derived.Test.YtojhajlhbhkddaaRows
import Derived.Test.YtojhajlhbhkddaaFoEn
import Derived.ProofKit
import Derived.SizedLaws
import Derived.HandedShaped
import Derived.Lib.RowBridge
import Derived.Lib.SmallJoins
import Derived.OpenShut
import Derived.Carry
import Derived.Shelf.Vars
namespace Go.Proofs.Ytojhajlhbhkddaa
open Go.ChangeShapes Go.WideShapes Go.ChangeAt Go.RowKit Go.Joins

theorem own : ownKnob Try.prog.godebug = none := by kernel_rfl
theorem laidOut : laidOutB Try.prog = true := by kernel_rfl
theorem env_of {W : World} (hs : W.ShapedOpen Try.prog) : Env W :=
  ⟨cell_of_shapedOpen_int (zero := #[.int .i64 0]) (t := 3) hs (of_decide_eq_true (by kernel_rfl)) (by kernel_rfl) rfl (by kernel_rfl) (by kernel_rfl) Try.underlying3⟩

end Go.Proofs.Ytojhajlhbhkddaa

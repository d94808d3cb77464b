/- Put together: RuR RuS. -/
import Derived.Test.YtgdjeddelcfgeaaGreatDoorZW2
namespace Go.Proofs.YtgdjeddelcfgeaaGreatDoor.R
open Go.RowKit Rul Go.Sort

set_option maxHeartbeats 400000 in
theorem once_any (w : World) :
    Calls Tryz.prog 47 #[] w (Ans w (.agg #[.int .i64 0, .int .i64 0, .int .i64 0, .int .i64 (-1), .slice none 0 0, .slice none 0 0, .slice none 0 0])) := by
  go_enter Tryz.func47, Tryz.ntmps47
  go_wp2_with fail
  exact bodyPost_ret (v := .agg #[.int .i64 0, .int .i64 0, .int .i64 0, .int .i64 (-1), .slice none 0 0, .slice none 0 0, .slice none 0 0]) (by simp [results, Tryz.results47, go_sem]) rfl ⟨rfl, more (start _) _⟩

end Go.Proofs.YtgdjeddelcfgeaaGreatDoor.R

namespace Go.Proofs.YtgdjeddelcfgeaaGreatDoor.R
open Go.RowKit Rul Go.Sort

end Go.Proofs.YtgdjeddelcfgeaaGreatDoor.R

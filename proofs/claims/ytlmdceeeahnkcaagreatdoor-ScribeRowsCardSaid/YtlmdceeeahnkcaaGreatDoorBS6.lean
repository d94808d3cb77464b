/- Nodes and trees of spans in memory; package spans: deep, newNode. -/
import Derived.Lib.QuietBelow
import Derived.RegionTactic
import Derived.IntWalk
import Derived.Test.YtlmdceeeahnkcaaGreatDoorBM2
import Derived.Test.YtlmdceeeahnkcaaGreatDoorBS2
namespace Go.Proofs.YtlmdceeeahnkcaaGreatDoor.S2
open Go.RowKit Spn

theorem cell_keep {W W1 : World} {a : Addr} {v : Value} (hb : Below W.heap.size W W1) (h : W.cell? a = some v) : W1.cell? a = some v := (hb.cell (block_lt_of_cell h)).trans h
end Go.Proofs.YtlmdceeeahnkcaaGreatDoor.S2

import Derived.Test.YtfecnkhoojnkbaaGreatDoorXW10
namespace Go.Proofs.YtfecnkhoojnkbaaGreatDoor
open Go.RowKit Rul Rt Go.Sort
theorem tQ (w:World) (vs us:Array Value) (t t2:TypeId) (i:Nat) (v:Value) (h:vs[i]?=some v):((w.alloc (.cells vs t)).alloc (.cells us t2)).cell? ⟨w.heap.size,i,none⟩=some v:=by
 rw [World.cell?_alloc_past _ _ _ (by simp)];exact AS w vs t i v h
theorem o9 (w:World) (vs us:Array Value) (t t2:TypeId) (i:Nat) (v:Value) (h:us[i]?=some v):((w.alloc (.cells vs t)).alloc (.cells us t2)).cell? ⟨w.heap.size+1,i,none⟩=some v:=by
 have:=AS (w.alloc (.cells vs t)) us t2 i v h;rw [World.size_alloc] at this;exact this
end Go.Proofs.YtfecnkhoojnkbaaGreatDoor

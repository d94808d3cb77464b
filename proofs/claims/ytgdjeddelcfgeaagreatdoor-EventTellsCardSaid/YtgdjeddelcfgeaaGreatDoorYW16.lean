/- What the laws ask of Lines and Read: an event's lines, lines that are read, lines that aren't. -/
import Derived.Test.YtgdjeddelcfgeaaGreatDoorYEvKo
import Derived.Test.YtgdjeddelcfgeaaGreatDoorYW12
import Derived.Test.YtgdjeddelcfgeaaGreatDoorYM3
namespace Go.Proofs.YtgdjeddelcfgeaaGreatDoor
open Go.RowKit Rul Rt Go.Sort

def GivesL (w : World) (l : List Tx) (x : Ending) (w' : World) : Prop:=∃ A cap,x = .returned (.slice A l.length cap) ∧ l.length ≤ cap ∧ RowS w' A l ∧ Below w.heap.size w w'
theorem lines_some (e : Ev.E) (m : Mem) (w : World) (h : EvL w e m) (he : EnvE w) (l : List Tx) (hl : Ev.linesE unU e = l) : Calls Tryz.prog 16 #[evV e m] w (GivesL w l):=by
 subst hl
 refine (eLines_any e m w h he.e.tab).mono ?_
 rintro _ w' ⟨v,rfl,hown,hb⟩
 obtain ⟨A,cap,rfl,hr,hc⟩:=OwnS.row hown
 exact ⟨A,cap,rfl,hc,hr,hb⟩
end Go.Proofs.YtgdjeddelcfgeaaGreatDoor

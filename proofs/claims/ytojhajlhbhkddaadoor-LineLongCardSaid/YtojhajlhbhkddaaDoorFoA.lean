/- A call's own strings.Builder in plain words. -/
import Derived.Test.YtojhajlhbhkddaaDoorRtC
import Derived.Test.YtojhajlhbhkddaaDoorFoMath
import Derived.Test.YtojhajlhbhkddaaDoorShelf
namespace Go.Proofs.YtojhajlhbhkddaaDoor
open Go.RowKit Rul Rt Fo Go.Sort

def Bu (w : World) (b : Nat) (l : Tx) : Prop := Lib.IsBuilder 44 5 b b (Lib.byteCells l) w
theorem bu_new (w : World) : Bu (w.alloc (.cells #[.pointer none, .slice none 0 0] 44)) w.heap.size [] := Lib.fresh_isBuilder _ _ w
theorem Bu.lt {w : World} {b : Nat} {l : Tx} (h : Bu w b l) : b < w.heap.size := by
  rcases h with h | h
  · exact Lib.BuilderAt.lt h
  · exact Lib.BuilderAt.lt h
theorem ws_any (b : Nat) (l : Tx) (s : ByteArray) (w : World) (h : Bu w b l) (hl : l.length ≤ 1000000) (hs : s.size ≤ 1000000) :
    Calls Tryd.prog 23 #[.pointer (some ⟨b, 0, none⟩), .string s] w fun e w' => e = .returned (.tuple #[.int .i64 s.size, .nilIface]) ∧ Bu w' b (l ++ s.data.toList) ∧ Below b w w' := by
  refine (Tryd.Builder_WriteString b b (Lib.byteCells l) s w h (by rw [Lib.byteCells_length]; omega) (Nat.le_of_lt h.lt)).mono ?_
  rintro e w' ⟨rfl, h1, hb⟩
  refine ⟨rfl, ?_, hb⟩
  rw [Lib.strCells_eq, ← Lib.byteCells_append] at h1
  exact Or.inr h1
theorem bstr_any (b : Nat) (l : Tx) (w : World) (h : Bu w b l) :
    Calls Tryd.prog 24 #[.pointer (some ⟨b, 0, none⟩)] w fun e w' => e = .returned (.string (str l)) ∧ Below b w w' :=
  Tryd.Builder_String_any b b l w h (Nat.le_of_lt h.lt)

end Go.Proofs.YtojhajlhbhkddaaDoor

/- Texts out of their bytes. -/
import Derived.WalkKit
namespace Go.Proofs.YtojhajlhbhkddaaDoor
open Go.RowKit

/-- a digit's byte; a text out of its bytes. -/
def dg (d : Nat) : UInt8 := UInt8.ofNat (48 + d)
def str (l : List UInt8) : ByteArray := ⟨l.toArray⟩
theorem str_size (l : List UInt8) : (str l).size = l.length := by simp [str, ByteArray.size]
theorem str_app (a b : List UInt8) : str a ++ str b = str (a ++ b) := by
  apply ByteArray.ext
  simp [str, ByteArray.data_append]
theorem str_list (l : List UInt8) : (str l).data.toList = l := by simp [str]
/-- two digits of a number below a hundred. -/
def two (u : Nat) : List UInt8 := [dg (u / 10), dg (u % 10)]
theorem ret_str {a b : ByteArray} (h : a = b) : Ending.returned (.string a) = .returned (.string b) := by rw [h]
theorem str_tl (l : List UInt8) : (str l).toList = l := by rw [ByteArray.toList_eq]; simp [str]

end Go.Proofs.YtojhajlhbhkddaaDoor

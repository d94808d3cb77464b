/- Walk of the reference of layer 6: all. Written by recipes/ex1.py. -/
import Derived.Test.YtdmplojfidkipaaExA
import Derived.Test.YtdmplojfidkipaaExMath
namespace Go.Proofs.Ytdmplojfidkipaa.R
open Go.RowKit Rul Go.Sort

end Go.Proofs.Ytdmplojfidkipaa.R

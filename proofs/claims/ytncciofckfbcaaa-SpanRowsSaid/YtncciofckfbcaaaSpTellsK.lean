/- What the great laws of layer 2 share: contracts at named answers. -/
import Derived.Test.YtncciofckfbcaaaSpK
import Derived.Test.YtncciofckfbcaaaSpRF
import Derived.Test.YtncciofckfbcaaaSpBox
import Derived.Test.YtncciofckfbcaaaSpMathB
namespace Go.Proofs.Ytncciofckfbcaaa
open Go.RowKit Spn Go.Sort

theorem tells_keep {w W W1 : World} {f t g u : Int} (hb : Below W.heap.size W W1) (h : W.cell? ⟨w.heap.size, 0, none⟩ = some (.int .i64 f) ∧ W.cell? ⟨w.heap.size, 1, none⟩ = some (.int .i64 t) ∧ W.cell? ⟨w.heap.size + 1, 0, none⟩ = some (.int .i64 g) ∧ W.cell? ⟨w.heap.size + 1, 1, none⟩ = some (.int .i64 u) ∧ Boxes w f t g u W) : W1.cell? ⟨w.heap.size, 0, none⟩ = some (.int .i64 f) ∧ W1.cell? ⟨w.heap.size, 1, none⟩ = some (.int .i64 t) ∧ W1.cell? ⟨w.heap.size + 1, 0, none⟩ = some (.int .i64 g) ∧ W1.cell? ⟨w.heap.size + 1, 1, none⟩ = some (.int .i64 u) ∧ Boxes w f t g u W1 :=
  have HB := h.2.2.2.2.keep hb
  ⟨HB.a0, HB.a1, HB.b0, HB.b1, HB⟩
theorem rwithin_is (f t g u : Int) (b : Bool) (w : World) (h : withinR (f, t) (g, u) = b) :
    Calls Try.prog 21 #[.agg #[.int .i64 f, .int .i64 t], .agg #[.int .i64 g, .int .i64 u]] w fun e w' => e = .returned (.bool b) ∧ Below w.heap.size w w' := by
  subst h; exact R.within_any f t g u w
theorem minus_is (f t g u : Int) (L : List Sp) (w : World) (h : minus (f, t) (g, u) = L) :
    Calls Try.prog 23 #[.agg #[.int .i64 f, .int .i64 t], .agg #[.int .i64 g, .int .i64 u]] w (Gives w L) := by
  subst h; exact minus_any f t g u w
theorem rminus_is (f t g u : Int) (L : List Sp) (w : World) (h : minusR (f, t) (g, u) = L) :
    Calls Try.prog 24 #[.agg #[.int .i64 f, .int .i64 t], .agg #[.int .i64 g, .int .i64 u]] w (Gives w L) := by
  subst h; exact R.minus_any f t g u w
theorem all_is (A : Option Addr) (n c : Nat) (l L : List Sp) (w : World) (h : Row w A l) (he : n = l.length) (hn : l.length + 2 ≤ 1000000) (hL : canon l = L) :
    Calls Try.prog 25 #[.slice A n c] w (Gives w L) := by
  subst hL; exact all_any A n c l w h he (by omega)
theorem rall_is (A : Option Addr) (n c : Nat) (l L : List Sp) (w : World) (h : Row w A l) (he : n = l.length) (hn : l.length + 2 ≤ 1000000) (hL : canon l = L) :
    Calls Try.prog 26 #[.slice A n c] w (Gives w L) := by
  subst hL; exact R.all_any A n c l w h he hn

end Go.Proofs.Ytncciofckfbcaaa

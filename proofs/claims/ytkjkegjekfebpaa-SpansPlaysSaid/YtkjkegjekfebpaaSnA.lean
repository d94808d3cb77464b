/- Nodes and trees of spans in memory; package spans: deep, newNode. -/
import Derived.Test.YtkjkegjekfebpaaSnMath
import Derived.Test.YtkjkegjekfebpaaSpE
import Derived.Lib.QuietBelow
import Derived.StillTailTactics
import Derived.RegionTactic
import Derived.Deep.RegionHeld3
import Derived.IntWalk
namespace Go.Proofs.Ytkjkegjekfebpaa
open Go.RowKit Spn

/-- a node in memory. -/
structure Node (w : World) (b : Nat) (a : Sp) (pl pr : Option Addr) (d : Nat) : Prop where
  lt : b < w.heap.size
  c0 : w.cell? ⟨b, 0, none⟩ = some (.int .i64 a.1)
  c1 : w.cell? ⟨b, 1, none⟩ = some (.int .i64 a.2)
  c2 : w.cell? ⟨b, 2, none⟩ = some (.pointer pl)
  c3 : w.cell? ⟨b, 3, none⟩ = some (.pointer pr)
  c4 : w.cell? ⟨b, 4, none⟩ = some (.int .i64 (d : Int))
theorem Node.keep {w w1 : World} {b : Nat} {a : Sp} {pl pr : Option Addr} {d : Nat} (h : Node w b a pl pr d) (hb : Below w.heap.size w w1) : Node w1 b a pl pr d :=
  ⟨Nat.lt_of_lt_of_le h.lt hb.size, (hb.cell (p := ⟨b, _, none⟩) h.lt).trans h.c0, (hb.cell (p := ⟨b, _, none⟩) h.lt).trans h.c1, (hb.cell (p := ⟨b, _, none⟩) h.lt).trans h.c2, (hb.cell (p := ⟨b, _, none⟩) h.lt).trans h.c3, (hb.cell (p := ⟨b, _, none⟩) h.lt).trans h.c4⟩
/-- what a pointer leads to reads as the tree. -/
def Tree (w : World) : Option Addr → Tr → Prop
  | p, .nil => p = none
  | p, .node l a r => ∃ b pl pr, p = some ⟨b, 0, none⟩ ∧ Node w b a pl pr (Tr.node l a r).deep ∧ Tree w pl l ∧ Tree w pr r
theorem Tree.keep {w w1 : World} (hb : Below w.heap.size w w1) : ∀ {t : Tr} {p : Option Addr}, Tree w p t → Tree w1 p t
  | .nil, _, h => h
  | .node _ _ _, _, ⟨b, pl, pr, e, hn, hl, hr⟩ => ⟨b, pl, pr, e, hn.keep hb, Tree.keep hb hl, Tree.keep hb hr⟩
theorem Tree.nil (w : World) : Tree w none .nil := rfl

set_option maxHeartbeats 400000 in
theorem deep_any (p : Option Addr) (t : Tr) (w : World) (h : Tree w p t) :
    Calls Try.prog 47 #[.pointer p] w fun e w' => e = .returned (.int .i64 (t.deep : Int)) ∧ w' = w := by
  cases t with
  | nil =>
    obtain rfl : p = none := h
    go_enter Try.func47, Try.ntmps47
    go_wp2_with fail
    go_ret
    exact ⟨rfl, rfl⟩
  | node l a r =>
    obtain ⟨b, pl, pr, rfl, hn, hl, hr⟩ := h
    have c4 := hn.c4
    clear hn hl hr
    generalize (Tr.node l a r).deep = d at *
    go_enter Try.func47, Try.ntmps47
    go_wp2_with fail
    go_ret
    exact ⟨rfl, rfl⟩

theorem cell_keep {W W1 : World} {a : Addr} {v : Value} (hb : Below W.heap.size W W1) (h : W.cell? a = some v) : W1.cell? a = some v := (hb.cell (block_lt_of_cell h)).trans h
theorem keep2 {W W1 : World} (hb : Below W.heap.size W W1) {a0 a1 : Addr} {v0 v1 : Value} (h : W.cell? a0 = some v0 ∧ W.cell? a1 = some v1) : W1.cell? a0 = some v0 ∧ W1.cell? a1 = some v1 :=
  ⟨cell_keep hb h.1, cell_keep hb h.2⟩
theorem keep3 {W W1 : World} (hb : Below W.heap.size W W1) {a0 a1 a2 : Addr} {v0 v1 v2 : Value} (h : W.cell? a0 = some v0 ∧ W.cell? a1 = some v1 ∧ W.cell? a2 = some v2) : W1.cell? a0 = some v0 ∧ W1.cell? a1 = some v1 ∧ W1.cell? a2 = some v2 :=
  ⟨cell_keep hb h.1, cell_keep hb h.2.1, cell_keep hb h.2.2⟩
theorem keep4 {W W1 : World} (hb : Below W.heap.size W W1) {a0 a1 a2 a3 : Addr} {v0 v1 v2 v3 : Value} (h : W.cell? a0 = some v0 ∧ W.cell? a1 = some v1 ∧ W.cell? a2 = some v2 ∧ W.cell? a3 = some v3) : W1.cell? a0 = some v0 ∧ W1.cell? a1 = some v1 ∧ W1.cell? a2 = some v2 ∧ W1.cell? a3 = some v3 :=
  ⟨cell_keep hb h.1, cell_keep hb h.2.1, cell_keep hb h.2.2.1, cell_keep hb h.2.2.2⟩
theorem keep5 {W W1 : World} (hb : Below W.heap.size W W1) {a0 a1 a2 a3 a4 : Addr} {v0 v1 v2 v3 v4 : Value} (h : W.cell? a0 = some v0 ∧ W.cell? a1 = some v1 ∧ W.cell? a2 = some v2 ∧ W.cell? a3 = some v3 ∧ W.cell? a4 = some v4) : W1.cell? a0 = some v0 ∧ W1.cell? a1 = some v1 ∧ W1.cell? a2 = some v2 ∧ W1.cell? a3 = some v3 ∧ W1.cell? a4 = some v4 :=
  ⟨cell_keep hb h.1, cell_keep hb h.2.1, cell_keep hb h.2.2.1, cell_keep hb h.2.2.2.1, cell_keep hb h.2.2.2.2⟩
theorem keep6 {W W1 : World} (hb : Below W.heap.size W W1) {a0 a1 a2 a3 a4 a5 : Addr} {v0 v1 v2 v3 v4 v5 : Value} (h : W.cell? a0 = some v0 ∧ W.cell? a1 = some v1 ∧ W.cell? a2 = some v2 ∧ W.cell? a3 = some v3 ∧ W.cell? a4 = some v4 ∧ W.cell? a5 = some v5) : W1.cell? a0 = some v0 ∧ W1.cell? a1 = some v1 ∧ W1.cell? a2 = some v2 ∧ W1.cell? a3 = some v3 ∧ W1.cell? a4 = some v4 ∧ W1.cell? a5 = some v5 :=
  ⟨cell_keep hb h.1, cell_keep hb h.2.1, cell_keep hb h.2.2.1, cell_keep hb h.2.2.2.1, cell_keep hb h.2.2.2.2.1, cell_keep hb h.2.2.2.2.2⟩
theorem keep7 {W W1 : World} (hb : Below W.heap.size W W1) {a0 a1 a2 a3 a4 a5 a6 : Addr} {v0 v1 v2 v3 v4 v5 v6 : Value} (h : W.cell? a0 = some v0 ∧ W.cell? a1 = some v1 ∧ W.cell? a2 = some v2 ∧ W.cell? a3 = some v3 ∧ W.cell? a4 = some v4 ∧ W.cell? a5 = some v5 ∧ W.cell? a6 = some v6) : W1.cell? a0 = some v0 ∧ W1.cell? a1 = some v1 ∧ W1.cell? a2 = some v2 ∧ W1.cell? a3 = some v3 ∧ W1.cell? a4 = some v4 ∧ W1.cell? a5 = some v5 ∧ W1.cell? a6 = some v6 :=
  ⟨cell_keep hb h.1, cell_keep hb h.2.1, cell_keep hb h.2.2.1, cell_keep hb h.2.2.2.1, cell_keep hb h.2.2.2.2.1, cell_keep hb h.2.2.2.2.2.1, cell_keep hb h.2.2.2.2.2.2⟩
theorem keep8 {W W1 : World} (hb : Below W.heap.size W W1) {a0 a1 a2 a3 a4 a5 a6 a7 : Addr} {v0 v1 v2 v3 v4 v5 v6 v7 : Value} (h : W.cell? a0 = some v0 ∧ W.cell? a1 = some v1 ∧ W.cell? a2 = some v2 ∧ W.cell? a3 = some v3 ∧ W.cell? a4 = some v4 ∧ W.cell? a5 = some v5 ∧ W.cell? a6 = some v6 ∧ W.cell? a7 = some v7) : W1.cell? a0 = some v0 ∧ W1.cell? a1 = some v1 ∧ W1.cell? a2 = some v2 ∧ W1.cell? a3 = some v3 ∧ W1.cell? a4 = some v4 ∧ W1.cell? a5 = some v5 ∧ W1.cell? a6 = some v6 ∧ W1.cell? a7 = some v7 :=
  ⟨cell_keep hb h.1, cell_keep hb h.2.1, cell_keep hb h.2.2.1, cell_keep hb h.2.2.2.1, cell_keep hb h.2.2.2.2.1, cell_keep hb h.2.2.2.2.2.1, cell_keep hb h.2.2.2.2.2.2.1, cell_keep hb h.2.2.2.2.2.2.2⟩
theorem keep10 {W W1 : World} (hb : Below W.heap.size W W1) {a0 a1 a2 a3 a4 a5 a6 a7 a8 a9 : Addr} {v0 v1 v2 v3 v4 v5 v6 v7 v8 v9 : Value} (h : W.cell? a0 = some v0 ∧ W.cell? a1 = some v1 ∧ W.cell? a2 = some v2 ∧ W.cell? a3 = some v3 ∧ W.cell? a4 = some v4 ∧ W.cell? a5 = some v5 ∧ W.cell? a6 = some v6 ∧ W.cell? a7 = some v7 ∧ W.cell? a8 = some v8 ∧ W.cell? a9 = some v9) : W1.cell? a0 = some v0 ∧ W1.cell? a1 = some v1 ∧ W1.cell? a2 = some v2 ∧ W1.cell? a3 = some v3 ∧ W1.cell? a4 = some v4 ∧ W1.cell? a5 = some v5 ∧ W1.cell? a6 = some v6 ∧ W1.cell? a7 = some v7 ∧ W1.cell? a8 = some v8 ∧ W1.cell? a9 = some v9 :=
  ⟨cell_keep hb h.1, cell_keep hb h.2.1, cell_keep hb h.2.2.1, cell_keep hb h.2.2.2.1, cell_keep hb h.2.2.2.2.1, cell_keep hb h.2.2.2.2.2.1, cell_keep hb h.2.2.2.2.2.2.1, cell_keep hb h.2.2.2.2.2.2.2.1, cell_keep hb h.2.2.2.2.2.2.2.2.1, cell_keep hb h.2.2.2.2.2.2.2.2.2⟩
/-- a call hands back this tree. -/
def Makes (W : World) (t : Tr) (e : Ending) (w : World) : Prop := ∃ p, e = .returned (.pointer p) ∧ Tree w p t ∧ Below W.heap.size W w
/-- a call hands back a tree of new nodes and old ones, and leaves all else. -/
def Grows (W : World) (R : Tr → Prop) (e : Ending) (w : World) : Prop := ∃ p t, e = .returned (.pointer p) ∧ Tree w p t ∧ R t ∧ Below W.heap.size W w
end Go.Proofs.Ytkjkegjekfebpaa

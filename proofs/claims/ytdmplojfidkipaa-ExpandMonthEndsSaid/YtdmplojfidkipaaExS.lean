/- Walk of the reference of layer 6: Starts. Written by recipes/ex2.py. -/
import Derived.Test.YtdmplojfidkipaaExR
namespace Go.Proofs.Ytdmplojfidkipaa.R
open Go.RowKit Rul Go.Sort

/-- a call answers a row of its own, and what is wrong. -/
def GivesE (w : World) (x : List Int × Int) (e : Ending) (w' : World) : Prop := ∃ v, e = .returned (.tuple #[v, .int .i64 x.2]) ∧ OwnI w' w.heap.size v x.1 ∧ Below w.heap.size w w'
theorem gives_e {w w' : World} {x : List Int × Int} {l : List Int} {n : Int} {v : Value} {e : Ending} (hx : x = (l, n)) (he : e = .returned (.tuple #[v, .int .i64 n])) (ho : OwnI w' w.heap.size v l) (hb : Below w.heap.size w w') : GivesE w x e w' := by
  subst hx; exact ⟨v, he, ho, hb⟩
theorem row_one (w : World) (s : Int) : RowI (w.alloc (.cells #[.int .i64 s] 3)) (some ⟨w.heap.size, 0, none⟩) [s] := fun _ =>
  ⟨w.heap.size, 0, rfl, by simp, fun i hi => by
    obtain rfl : i = 0 := by simpa using hi
    rw [World.cell?_alloc_at _ _ _ _ rfl]; rfl⟩
theorem starts_12 (r : Rul.T) (s : Int) (ex : List Int) (h : isB r = false) : startsE r s ex = ([], 12) := by unfold startsE; rw [if_pos h]
theorem starts_10 (r : Rul.T) (s : Int) (ex : List Int) (h : isB r = true) (hs : s < 0 ∨ 52596000 ≤ s) : startsE r s ex = ([], 10) := by unfold startsE; rw [if_neg (by rw [h]; simp), if_pos hs]
theorem starts_13 (r : Rul.T) (s : Int) (ex L : List Int) (h : isB r = true) (h1 : 0 ≤ s) (h2 : s < 52596000) (hL : (if r.fr = 0 then [s] else allL r s) = L) (hl : 40 < L.length) : startsE r s ex = ([], 13) := by
  unfold startsE; rw [if_neg (by rw [h]; simp), if_neg (by omega), hL, if_pos hl]
theorem starts_at (r : Rul.T) (s : Int) (ex L : List Int) (h : isB r = true) (h1 : 0 ≤ s) (h2 : s < 52596000) (hL : (if r.fr = 0 then [s] else allL r s) = L) (hl : ¬ 40 < L.length) :
    (L.filter (fun m => !outB ex m) = [] → startsE r s ex = ([], 23)) ∧ (L.filter (fun m => !outB ex m) ≠ [] → startsE r s ex = (L.filter (fun m => !outB ex m), 0)) := by
  unfold startsE; rw [if_neg (by rw [h]; simp), if_neg (by omega), hL, if_neg hl]
  exact ⟨fun g => by rw [if_pos g], fun g => by rw [if_neg g]⟩
end Go.Proofs.Ytdmplojfidkipaa.R

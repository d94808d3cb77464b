/- Put together: ExR ExS ExP. -/
import Derived.Test.YtdmplojfidkipaaExMath
import Derived.Test.YtdmplojfidkipaaTp

/- Walk of the reference of layer 6: all. Written by recipes/ex1.py. -/
namespace Go.Proofs.Ytdmplojfidkipaa.R
open Go.RowKit Rul Go.Sort

end Go.Proofs.Ytdmplojfidkipaa.R

/- Walk of the reference of layer 6: Starts. Written by recipes/ex2.py. -/
namespace Go.Proofs.Ytdmplojfidkipaa.R
open Go.RowKit Rul Go.Sort

/-- a call answers a row of its own, and what is wrong. -/
def GivesE (w : World) (x : List Int × Int) (e : Ending) (w' : World) : Prop := ∃ v, e = .returned (.tuple #[v, .int .i64 x.2]) ∧ OwnI w' w.heap.size v x.1 ∧ Below w.heap.size w w'
theorem gives_e {w w' : World} {x : List Int × Int} {l : List Int} {n : Int} {v : Value} {e : Ending} (hx : x = (l, n)) (he : e = .returned (.tuple #[v, .int .i64 n])) (ho : OwnI w' w.heap.size v l) (hb : Below w.heap.size w w') : GivesE w x e w' := by
  subst hx; exact ⟨v, he, ho, hb⟩
theorem row_one (w : World) (s : Int) : RowI (w.alloc (.cells #[.int .i64 s] 3)) (some ⟨w.heap.size, 0, none⟩) [s] := fun _ =>
  ⟨w.heap.size, 0, rfl, by simp, fun i hi => by
    obtain rfl : i = 0 := by simpa using hi
    rw [World.cell?_alloc_at _ _ _ _ rfl]; rfl⟩
theorem starts_12 (r : Rul.T) (s : Int) (ex : List Int) (h : isB r = false) : startsE r s ex = ([], 12) := by unfold startsE; rw [if_pos h]
theorem starts_10 (r : Rul.T) (s : Int) (ex : List Int) (h : isB r = true) (hs : s < 0 ∨ 52596000 ≤ s) : startsE r s ex = ([], 10) := by unfold startsE; rw [if_neg (by rw [h]; simp), if_pos hs]
theorem starts_13 (r : Rul.T) (s : Int) (ex L : List Int) (h : isB r = true) (h1 : 0 ≤ s) (h2 : s < 52596000) (hL : (if r.fr = 0 then [s] else allL r s) = L) (hl : 40 < L.length) : startsE r s ex = ([], 13) := by
  unfold startsE; rw [if_neg (by rw [h]; simp), if_neg (by omega), hL, if_pos hl]
theorem starts_at (r : Rul.T) (s : Int) (ex L : List Int) (h : isB r = true) (h1 : 0 ≤ s) (h2 : s < 52596000) (hL : (if r.fr = 0 then [s] else allL r s) = L) (hl : ¬ 40 < L.length) :
    (L.filter (fun m => !outB ex m) = [] → startsE r s ex = ([], 23)) ∧ (L.filter (fun m => !outB ex m) ≠ [] → startsE r s ex = (L.filter (fun m => !outB ex m), 0)) := by
  unfold startsE; rw [if_neg (by rw [h]; simp), if_neg (by omega), hL, if_neg hl]
  exact ⟨fun g => by rw [if_pos g], fun g => by rw [if_neg g]⟩
end Go.Proofs.Ytdmplojfidkipaa.R

/- Walk of the reference of layer 6: Spans. Written by recipes/ex3.py. -/
namespace Go.Proofs.Ytdmplojfidkipaa.R
open Go.RowKit Rul Go.Sort Spn

theorem _root_.Go.Proofs.Ytdmplojfidkipaa.S2.Own.none (w : World) (B : Nat) : S2.Own w B (.slice none 0 0) [] := World.ownsRow_nil _ _ _ _
theorem _root_.Go.Proofs.Ytdmplojfidkipaa.S2.okB_yes (f t : Int) (h0 : 0 ≤ f) (h1 : f < t) (h2 : t ≤ 52596000) : okB (f, t) = true := by unfold okB; exact decide_eq_true (show Ok (f, t) from ⟨h0, h1, h2⟩)
/-- a call answers a row of spans of its own, and what is wrong. -/
def GivesP (w : World) (x : List (Int × Int) × Int) (e : Ending) (w' : World) : Prop := ∃ v, e = .returned (.tuple #[v, .int .i64 x.2]) ∧ S2.Own w' w.heap.size v x.1 ∧ Below w.heap.size w w'
theorem gives_p {w w' : World} {x : List (Int × Int) × Int} {l : List (Int × Int)} {n : Int} {v : Value} {e : Ending} (hx : x = (l, n)) (he : e = .returned (.tuple #[v, .int .i64 n])) (ho : S2.Own w' w.heap.size v l) (hb : Below w.heap.size w w') : GivesP w x e w' := by
  subst hx; exact ⟨v, he, ho, hb⟩
theorem spans_12 (r : Rul.T) (s g : Int) (ex : List Int) (h : isB r = false) : spansE r s g ex = ([], 12) := by unfold spansE; rw [if_pos h]
theorem spans_10 (r : Rul.T) (s g : Int) (ex : List Int) (h : isB r = true) (hs : s < 0 ∨ 52596000 ≤ s) : spansE r s g ex = ([], 10) := by unfold spansE; rw [if_neg (by rw [h]; simp), if_pos hs]
theorem spans_15 (r : Rul.T) (s g : Int) (ex : List Int) (h : isB r = true) (h1 : 0 ≤ s) (h2 : s < 52596000) (hg : g < 1 ∨ 10080 < g) : spansE r s g ex = ([], 15) := by
  unfold spansE; rw [if_neg (by rw [h]; simp), if_neg (by omega), if_pos hg]
theorem spans_at (r : Rul.T) (s g e2 : Int) (ex l : List Int) (h : isB r = true) (h1 : 0 ≤ s) (h2 : s < 52596000) (hg : 1 ≤ g ∧ g ≤ 10080) (hS : startsE r s ex = (l, e2)) :
    (e2 ≠ 0 → spansE r s g ex = ([], e2)) ∧ (e2 = 0 → ((∃ m ∈ l, 52596000 < m + g) → spansE r s g ex = ([], 10)) ∧ ((∀ m ∈ l, m + g ≤ 52596000) → spansE r s g ex = (l.map fun m => (m, m + g), 0))) := by
  unfold spansE; rw [if_neg (by rw [h]; simp), if_neg (by omega), if_neg (by omega), hS]
  refine ⟨fun g1 => by rw [if_pos g1], fun g1 => ⟨fun ⟨m, hm, hlt⟩ => ?_, fun ha => ?_⟩⟩
  · rw [if_neg (by simpa using g1), if_pos]
    rw [List.all_eq_false]; exact ⟨m, hm, by simp; omega⟩
  · rw [if_neg (by simpa using g1), if_neg]
    rw [Bool.not_eq_false, List.all_eq_true]; exact fun m hm => decide_eq_true (ha m hm)
theorem starts_in (r : Rul.T) (s : Int) (ex : List Int) : (∀ m ∈ (startsE r s ex).1, 0 ≤ m ∧ m < 52596000) ∧ (startsE r s ex).1.length ≤ 41 := by
  have hn : (∀ m ∈ ([] : List Int), 0 ≤ m ∧ m < 52596000) ∧ ([] : List Int).length ≤ 41 := ⟨fun m hm => absurd hm List.not_mem_nil, Nat.zero_le _⟩
  unfold startsE
  by_cases a1 : isB r = false
  · rw [if_pos a1]; exact hn
  rw [if_neg a1]
  by_cases a2 : s < 0 ∨ 52596000 ≤ s
  · rw [if_pos a2]; exact hn
  rw [if_neg a2]
  by_cases a3 : 40 < (if r.fr = 0 then [s] else allL r s).length
  · rw [if_pos a3]; exact hn
  rw [if_neg a3]
  by_cases a4 : ((if r.fr = 0 then [s] else allL r s).filter fun m => !outB ex m) = []
  · rw [if_pos a4]; exact hn
  rw [if_neg a4]
  refine ⟨fun m hm => ?_, Nat.le_trans (List.length_filter_le _ _) (by omega)⟩
  have hm := (List.mem_filter.1 hm).1
  by_cases a5 : r.fr = 0
  · rw [if_pos a5, List.mem_singleton] at hm; omega
  · rw [if_neg a5] at hm
    have a := (allL_sub r s m hm).1
    obtain ⟨i, _, hi⟩ := (candT_mem r s m 36525).1 a
    have b := candK_mem r s m i hi
    have c := per_bd _ _ _ b.1
    omega
end Go.Proofs.Ytdmplojfidkipaa.R

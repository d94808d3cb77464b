/- RuX; RtA; RtC; RtD of the recipes, what is needed of them. -/
import Derived.Laws.AppendOwn
import Derived.OwnWalk
import Derived.LoopTactic
import Derived.Laws.MakeOwn
import Derived.Lib.ItoaLen
import Derived.Test.YtlmdceeeahnkcaaGreatDoorBW5
import Derived.Test.YtlmdceeeahnkcaaGreatDoorBM1
namespace Go.Proofs.YtlmdceeeahnkcaaGreatDoor
open Go.RowKit Rul Go.Sort

theorem plus (g j : Nat) : (⟨g, 0, none⟩ : Addr).add j = ⟨g, j, none⟩ := by unfold Addr.add; split <;> simp_all
def cellsI (l : List Int) : List Value := l.map (Value.int .i64)
theorem cellsI_append (l k : List Int) : cellsI (l ++ k) = cellsI l ++ cellsI k := List.map_append
abbrev OwnI (w : World) (B : Nat) (v : Value) (l : List Int) : Prop := w.ownsRow B 3 1 v l.length (cellsI l)
theorem OwnI.row {w : World} {B : Nat} {v : Value} {l : List Int} (h : OwnI w B v l) : ∃ A cap, v = .slice A l.length cap ∧ RowI w A l := by
  have h2 := h.2
  rcases h2 with ⟨rfl, hn⟩ | ⟨g, cap, cur, rfl, hb, hg, hnc, hcm, hcs, htake⟩
  · refine ⟨none, 0, by rw [hn], fun hl => absurd (List.eq_nil_of_length_eq_zero hn) hl⟩
  · refine ⟨some ⟨g, 0, none⟩, cap, rfl, fun _ => ⟨g, 0, rfl, (h.lt g rfl).2, fun i hi => ?_⟩⟩
    have hc := World.ownsRow.cells h (g := g) rfl
    have g1 := hc i (.int .i64 l[i]) (by simp [cellsI, hi])
    rw [plus] at g1
    rw [Nat.zero_add]
    exact g1
theorem OwnI.keep {w w1 : World} {B : Nat} {v : Value} {l : List Int} (h : OwnI w B v l) (hb : Below w.heap.size w w1) : OwnI w1 B v l :=
  World.ownsRow.kept (row := none) h ⟨hb.os, hb.tape, hb.output, hb.size, fun i hi _ => hb.block i hi⟩ (by cases v.ownBlock <;> simp)
theorem ownI_nil (w : World) (B : Nat) : OwnI w B (.slice none 0 0) [] := World.ownsRow_nil _ _ _ _
theorem int_info : (Tryz.prog.info? 3).map (fun i => (i.zero, i.size, i.bytes)) = some (some (.int .i64 0), 1, 8) := by kernel_rfl
theorem wp_oneI {ops : Array Oper} {rest : List Oper} {o : Oper} {a : Act} {Q : Exit → Act → World → Prop} {w : World} {B : Nat} {v : Value} {l : List Int} {p : Int} (hgd : o.guard = none) (s x : Operand)
    (ho : o.op = .call { callee := .builtin .append, args := #[s, x], argTypes := #[24, 24] }) (hs : a.eval s = v) {N : Nat} (hN : w.heap.size = N) (hx : a.eval x = .slice (some ⟨N, 0, none⟩) 1 1)
    (hown : OwnI w B v l) (hB : B ≤ w.heap.size) (hn : l.length ≤ 1000000)
    (h : ∀ v' w', OwnI w' B v' (l ++ [p]) → Below B w w' → wpList Tryz.prog ops Q rest (a.put o.dst v') w') :
    wpList Tryz.prog ops Q (o :: rest) a (w.alloc (.cells #[.int .i64 p] 3)) := by
  subst hN
  obtain ⟨i0, hi, hz0, hz1, hz2⟩ := info_parts int_info
  refine wpList_append_own _ hgd s x 24 ho B 3 i0 _ 1 8 Tryz.underlying24 hi hz0 hz1 hz2 rfl (by decide) v l.length (cellsI l) hs (hown.alloc _) ⟨w.heap.size, 0, none⟩ 1 1 [.int .i64 p] hx rfl ?_ ?_ ?_ ?_ ?_ ?_
  · intro j u hu
    rw [plus, World.cell?_alloc_at _ _ _ _ rfl]
    exact (by simpa using hu)
  · intro u hu
    simp only [List.mem_cons, List.not_mem_nil, or_false] at hu
    subst hu; rfl
  · unfold maxLen; omega
  · omega
  · simp only [World.size_alloc]; omega
  · intro v' w' h2 h3 _
    refine h v' w' (by rw [OwnI, cellsI_append, List.length_append]; exact h2) (((Below.refl B w).alloc hB _).grown h3 (by simp only [World.size_alloc]; omega) fun j hj => (hown.lt j hj).1)

def cellsD (l : List Wd) : List Value := l.flatMap fun a => [.int .i64 a.1, .int .i64 a.2]
theorem cellsD_cons (a : Wd) (l : List Wd) : cellsD (a :: l) = .int .i64 a.1 :: .int .i64 a.2 :: cellsD l := rfl
theorem cellsD_append (l k : List Wd) : cellsD (l ++ k) = cellsD l ++ cellsD k := by simp [cellsD]
theorem cellsD_get : ∀ (l : List Wd) (i : Nat) (h : i < l.length), (cellsD l)[i * 2]? = some (.int .i64 l[i].1) ∧ (cellsD l)[i * 2 + 1]? = some (.int .i64 l[i].2)
  | [], i, h => absurd h (Nat.not_lt_zero i)
  | a :: l, 0, _ => by simp [cellsD_cons]
  | a :: l, i + 1, h => by
    have hi : i < l.length := by simpa using h
    have := cellsD_get l i hi
    rw [cellsD_cons, show (i + 1) * 2 = i * 2 + 1 + 1 by omega]
    simpa using this
abbrev OwnD (w : World) (B : Nat) (v : Value) (l : List Wd) : Prop := w.ownsRow B 108 2 v l.length (cellsD l)
theorem OwnD.row {w : World} {B : Nat} {v : Value} {l : List Wd} (h : OwnD w B v l) : ∃ A cap, v = .slice A l.length cap ∧ RowD w A l := by
  have h2 := h.2
  rcases h2 with ⟨rfl, hn⟩ | ⟨g, cap, cur, rfl, hb, hg, hnc, hcm, hcs, htake⟩
  · refine ⟨none, 0, by rw [hn], fun hl => absurd (List.eq_nil_of_length_eq_zero hn) hl⟩
  · refine ⟨some ⟨g, 0, none⟩, cap, rfl, fun _ => ⟨g, 0, rfl, (h.lt g rfl).2, fun i hi => ?_⟩⟩
    have hc := World.ownsRow.cells h (g := g) rfl
    obtain ⟨c1, c2⟩ := cellsD_get l i hi
    have g1 := hc _ _ c1
    have g2 := hc _ _ c2
    rw [plus] at g1 g2
    rw [Nat.zero_add]
    exact ⟨g1, g2⟩
theorem OwnD.keep {w w1 : World} {B : Nat} {v : Value} {l : List Wd} (h : OwnD w B v l) (hb : Below w.heap.size w w1) : OwnD w1 B v l :=
  World.ownsRow.kept (row := none) h ⟨hb.os, hb.tape, hb.output, hb.size, fun i hi _ => hb.block i hi⟩ (by cases v.ownBlock <;> simp)
theorem ownD_nil (w : World) (B : Nat) : OwnD w B (.slice none 0 0) [] := World.ownsRow_nil _ _ _ _
theorem day_info : (Tryz.prog.info? 108).map (fun i => (i.zero, i.size, i.bytes)) = some (some (.agg #[.int .i64 0, .int .i64 0]), 2, 16) := by kernel_rfl
theorem wp_oneD {ops : Array Oper} {rest : List Oper} {o : Oper} {a : Act} {Q : Exit → Act → World → Prop} {w : World} {B : Nat} {v : Value} {l : List Wd} {p : Wd} (hgd : o.guard = none) (s x : Operand)
    (ho : o.op = .call { callee := .builtin .append, args := #[s, x], argTypes := #[25, 25] }) (hs : a.eval s = v) {N : Nat} (hN : w.heap.size = N) (hx : a.eval x = .slice (some ⟨N, 0, none⟩) 1 1)
    (hown : OwnD w B v l) (hB : B ≤ w.heap.size) (hn : l.length ≤ 1000000)
    (h : ∀ v' w', OwnD w' B v' (l ++ [p]) → Below B w w' → wpList Tryz.prog ops Q rest (a.put o.dst v') w') :
    wpList Tryz.prog ops Q (o :: rest) a (w.alloc (.cells #[.int .i64 p.1, .int .i64 p.2] 108)) := by
  subst hN
  obtain ⟨i0, hi, hz0, hz1, hz2⟩ := info_parts day_info
  refine wpList_append_own _ hgd s x 25 ho B 108 i0 _ 2 16 Tryz.underlying25 hi hz0 hz1 hz2 rfl (by decide) v l.length (cellsD l) hs (hown.alloc _) ⟨w.heap.size, 0, none⟩ 1 1 [.int .i64 p.1, .int .i64 p.2] hx rfl ?_ ?_ ?_ ?_ ?_ ?_
  · intro j u hu
    rw [plus, World.cell?_alloc_at _ _ _ _ rfl]
    exact (by simpa using hu)
  · intro u hu
    simp only [List.mem_cons, List.not_mem_nil, or_false] at hu
    rcases hu with rfl | rfl <;> rfl
  · unfold maxLen; omega
  · omega
  · simp only [World.size_alloc]; omega
  · intro v' w' h2 h3 _
    refine h v' w' (by rw [OwnD, cellsD_append, List.length_append]; exact h2) (((Below.refl B w).alloc hB _).grown h3 (by simp only [World.size_alloc]; omega) fun j hj => (hown.lt j hj).1)

end Go.Proofs.YtlmdceeeahnkcaaGreatDoor
namespace Go.Proofs.YtlmdceeeahnkcaaGreatDoor
open Go.RowKit Rul Rt Go.Sort

def RowS (w : World) (A : Option Addr) (l : List Tx) : Prop :=
  l ≠ [] → ∃ b off, A = some ⟨b, off, none⟩ ∧ b < w.heap.size ∧ ∀ i (h : i < l.length), w.cell? ⟨b, off + i, none⟩ = some (.string (str l[i]))
theorem RowS.keep {w w' : World} {A : Option Addr} {l : List Tx} (h : RowS w A l) (hb : Below w.heap.size w w') : RowS w' A l := fun hn => by
  obtain ⟨b, off, e, hl, hc⟩ := h hn
  exact ⟨b, off, e, Nat.lt_of_lt_of_le hl hb.size, fun i hi => (hb.cell (p := ⟨b, _, none⟩) hl).trans (hc i hi)⟩
theorem RowS.nil (w : World) (A : Option Addr) : RowS w A [] := fun h => absurd rfl h
def cellsS (l : List Tx) : List Value := l.map fun t => Value.string (str t)
theorem cellsS_append (l k : List Tx) : cellsS (l ++ k) = cellsS l ++ cellsS k := List.map_append
abbrev OwnS (w : World) (B : Nat) (v : Value) (l : List Tx) : Prop := w.ownsRow B 9 1 v l.length (cellsS l)
theorem OwnS.row {w : World} {B : Nat} {v : Value} {l : List Tx} (h : OwnS w B v l) : ∃ A cap, v = .slice A l.length cap ∧ RowS w A l ∧ l.length ≤ cap := by
  have h2 := h.2
  rcases h2 with ⟨rfl, hn⟩ | ⟨g, cap, cur, rfl, hb, hg, hnc, hcm, hcs, htake⟩
  · refine ⟨none, 0, by rw [hn], fun hl => absurd (List.eq_nil_of_length_eq_zero hn) hl, by omega⟩
  · refine ⟨some ⟨g, 0, none⟩, cap, rfl, fun _ => ⟨g, 0, rfl, (h.lt g rfl).2, fun i hi => ?_⟩, hnc⟩
    have hc := World.ownsRow.cells h (g := g) rfl
    have g1 := hc i (.string (str l[i])) (by simp [cellsS, hi])
    rw [plus] at g1
    rw [Nat.zero_add]
    exact g1
theorem OwnS.keep {w w1 : World} {B : Nat} {v : Value} {l : List Tx} (h : OwnS w B v l) (hb : Below w.heap.size w w1) : OwnS w1 B v l :=
  World.ownsRow.kept (row := none) h ⟨hb.os, hb.tape, hb.output, hb.size, fun i hi _ => hb.block i hi⟩ (by cases v.ownBlock <;> simp)
theorem ownS_nil (w : World) (B : Nat) : OwnS w B (.slice none 0 0) [] := World.ownsRow_nil _ _ _ _
theorem OwnS.low {w : World} {B B2 : Nat} {v : Value} {l : List Tx} (h : OwnS w B v l) (hb : B2 ≤ B) : OwnS w B2 v l := by
  refine ⟨h.1, ?_⟩
  rcases h.2 with g | ⟨g, cap, cur, e, hg, r⟩
  · exact Or.inl g
  · exact Or.inr ⟨g, cap, cur, e, Nat.le_trans hb hg, r⟩
theorem string_info : (Tryz.prog.info? 9).map (fun i => (i.zero, i.size, i.bytes)) = some (some (.string ByteArray.empty), 1, 16) := by kernel_rfl
theorem wp_oneS {ops : Array Oper} {rest : List Oper} {o : Oper} {a : Act} {Q : Exit → Act → World → Prop} {w : World} {B : Nat} {v : Value} {l : List Tx} {p : Tx} (hgd : o.guard = none) (s x : Operand)
    (ho : o.op = .call { callee := .builtin .append, args := #[s, x], argTypes := #[76, 76] }) (hs : a.eval s = v) {N : Nat} (hN : w.heap.size = N) (hx : a.eval x = .slice (some ⟨N, 0, none⟩) 1 1)
    (hown : OwnS w B v l) (hB : B ≤ w.heap.size) (hn : l.length ≤ 1000000)
    (h : ∀ v' w', OwnS w' B v' (l ++ [p]) → Below B w w' → wpList Tryz.prog ops Q rest (a.put o.dst v') w') :
    wpList Tryz.prog ops Q (o :: rest) a (w.alloc (.cells #[.string (str p)] 9)) := by
  subst hN
  obtain ⟨i0, hi, hz0, hz1, hz2⟩ := info_parts string_info
  refine wpList_append_own _ hgd s x 76 ho B 9 i0 _ 1 16 Tryz.underlying76 hi hz0 hz1 hz2 rfl (by decide) v l.length (cellsS l) hs (hown.alloc _) ⟨w.heap.size, 0, none⟩ 1 1 [.string (str p)] hx rfl ?_ ?_ ?_ ?_ ?_ ?_
  · intro j u hu
    rw [plus, World.cell?_alloc_at _ _ _ _ rfl]
    exact (by simpa using hu)
  · intro u hu
    simp only [List.mem_cons, List.not_mem_nil, or_false] at hu
    subst hu; rfl
  · unfold maxLen; omega
  · omega
  · simp only [World.size_alloc]; omega
  · intro v' w' h2 h3 _
    refine h v' w' (by rw [OwnS, cellsS_append, List.length_append]; exact h2) (((Below.refl B w).alloc hB _).grown h3 (by simp only [World.size_alloc]; omega) fun j hj => (hown.lt j hj).1)
theorem tx_eq (a b : Tx) : (a == b) = decide (a = b) := by
  by_cases h : a = b
  · subst h; simp
  · simp [h]
end Go.Proofs.YtlmdceeeahnkcaaGreatDoor
namespace Go.Proofs.YtlmdceeeahnkcaaGreatDoor
open Go.RowKit Rul Rt Go.Sort

def GivesS (w : World) (l : List Tx) (e : Ending) (w' : World) : Prop := ∃ v, e = .returned v ∧ OwnS w' w.heap.size v l ∧ Below w.heap.size w w'
theorem GivesS.is {w : World} {l k : List Tx} {e : Ending} {w' : World} (h : GivesS w l e w') (he : l = k) : GivesS w k e w' := he ▸ h
theorem len_of (s : ByteArray) : s.data.toList.length = s.size := by simp
theorem str_of (s : ByteArray) : s = str s.data.toList := by apply ByteArray.ext; simp [str]
end Go.Proofs.YtlmdceeeahnkcaaGreatDoor
namespace Go.Proofs.YtlmdceeeahnkcaaGreatDoor
open Go.RowKit Rul Rt Go.Sort

theorem join_len (c : UInt8) (K : Nat) : ∀ ps : List Tx, (∀ p ∈ ps, p.length ≤ K) → (joinAt c ps).length ≤ ps.length * (K + 1)
  | [], _ => by simp [joinAt]
  | [p], h => by have := h p (by simp); simp [joinAt]; omega
  | p :: q :: r, h => by
    have h1 := h p (by simp)
    have h2 := join_len c K (q :: r) fun x hx => h x (List.mem_cons_of_mem _ hx)
    rw [joinAt, List.length_append, List.length_cons, List.length_cons (a := p), Nat.succ_mul]
    omega
end Go.Proofs.YtlmdceeeahnkcaaGreatDoor

/- What the walks of slates stand on: texts out of bytes, rows of texts, worlds that keep what is old; a slate in memory and what changes it leaves; bytes appended to its text. By hand. -/
import Derived.Test.YtimhbpfeofdfnaaDoorProg
import Derived.Test.YtimhbpfeofdfnaaDoorSlMath
import Derived.WalkKit
import Derived.WalkSpells
import Derived.WalkLawsBesides
import Derived.Deep.QuietTactic
import Derived.BigQuiet
import Derived.Lib.QuietBelow
import Derived.Deep.RegionHeld3
import Derived.Deep.DrawnRows
import Derived.Laws.AppendOwn
import Derived.Laws.IdiomStrings
import Derived.Great.BuildSlice
import Derived.RegionTactic
import Derived.OwnWalk
import Derived.LoopTactic
import Derived.Lib.FrozenHead
import Derived.Lib.IndexBytes
namespace Go.Proofs.YtimhbpfeofdfnaaDoor
open Go.RowKit Sl

theorem hide {p : Prop} (h : p) : Hid p := h
theorem ret_bool {a b : Bool} (h : a = b) : Ending.returned (.bool a) = .returned (.bool b) := by rw [h]
theorem ret_int {k : IntKind} {a b : Int} (h : a = b) : Ending.returned (.int k a) = .returned (.int k b) := by rw [h]
theorem ret_str {a b : ByteArray} (h : a = b) : Ending.returned (.string a) = .returned (.string b) := by rw [h]
def str (l : List UInt8) : ByteArray := ⟨l.toArray⟩
theorem str_size (l : List UInt8) : (str l).size = l.length := by simp [str, ByteArray.size]
theorem str_app (a b : List UInt8) : str a ++ str b = str (a ++ b) := by
  apply ByteArray.ext
  simp [str, ByteArray.data_append]
theorem str_list (l : List UInt8) : (str l).data.toList = l := by simp [str]
theorem str_of (s : ByteArray) : s = str s.data.toList := by apply ByteArray.ext; simp [str]
theorem data_str (x : ByteArray) : str x.data.toList = x := (str_of x).symm
theorem len_of (s : ByteArray) : s.data.toList.length = s.size := by simp
theorem ext_str (s : ByteArray) (a b : Nat) : s.extract a b = str ((s.data.toList.take b).drop a) := by
  rw [str_of (s.extract a b), Lib.extract_data]
  congr 1
  rw [List.drop_take]
theorem str_tl (l : List UInt8) : (str l).toList = l := by rw [ByteArray.toList_eq]; simp [str]
theorem str_inj {a b : Tx} (h : str a = str b) : a = b := by rw [← str_list a, ← str_list b, h]
theorem tx_eq (a b : Tx) : (a == b) = decide (a = b) := by
  by_cases h : a = b
  · subst h; simp
  · simp [h]
theorem eq_tl (a b : Tx) : ((str a).toList == (str b).toList) = decide (a = b) := by rw [str_tl, str_tl, tx_eq]
theorem more {a w : World} (h : Below a.heap.size a w) (o : Obj) : Below a.heap.size a (w.alloc o) := h.alloc h.size o
theorem andthen {a b c : World} (h : Below a.heap.size a b) (k : Below b.heap.size b c) : Below a.heap.size a c := h.trans (k.mono h.size)
theorem start (a : World) : Below a.heap.size a a := Below.refl _ _
theorem cell_keep {a b : World} {X k : Nat} {v : Value} (h : Below a.heap.size a b) (c : a.cell? ⟨X, k, none⟩ = some v) : b.cell? ⟨X, k, none⟩ = some v :=
  (h.cell (p := ⟨X, k, none⟩) (block_lt_of_cell c)).trans c
theorem plus (g j : Nat) : (⟨g, 0, none⟩ : Addr).add j = ⟨g, j, none⟩ := by unfold Addr.add; split <;> simp_all
theorem plusE (b o j : Nat) : (⟨b, o, none⟩ : Addr).add j = ⟨b, o + j, none⟩ := by unfold Addr.add; split <;> simp_all
/-- what a call answers, at a named answer. -/
abbrev Ans (w : World) (v : Value) : Ending → World → Prop := fun e w' => e = .returned v ∧ Below w.heap.size w w'

/-- rows of texts. -/
def RowS (w : World) (A : Option Addr) (l : List Tx) : Prop :=
  l ≠ [] → ∃ b off, A = some ⟨b, off, none⟩ ∧ b < w.heap.size ∧ ∀ i (h : i < l.length), w.cell? ⟨b, off + i, none⟩ = some (.string (str l[i]))
theorem RowS.keep {w w' : World} {A : Option Addr} {l : List Tx} (h : RowS w A l) (hb : Below w.heap.size w w') : RowS w' A l := fun hn => by
  obtain ⟨b, off, e, hl, hc⟩ := h hn
  exact ⟨b, off, e, Nat.lt_of_lt_of_le hl hb.size, fun i hi => (hb.cell (p := ⟨b, _, none⟩) hl).trans (hc i hi)⟩
theorem RowS.nil (w : World) (A : Option Addr) : RowS w A [] := fun h => absurd rfl h
theorem RowS.front {w : World} {A : Option Addr} {l k : List Tx} (h : RowS w A (l ++ k)) : RowS w A l := fun hn => by
  obtain ⟨b, off, e, hl, hc⟩ := h (by simp [hn])
  refine ⟨b, off, e, hl, fun i hi => ?_⟩
  have := hc i (by rw [List.length_append]; omega)
  rw [List.getElem_append_left hi] at this
  exact this
/-- a call answers a row of texts in new memory. -/
def PieS (w : World) (l : List Tx) (e : Ending) (w' : World) : Prop := ∃ A cap, e = .returned (.slice A l.length cap) ∧ RowS w' A l ∧ l.length ≤ cap ∧ Below w.heap.size w w'
def cellsS (l : List Tx) : List Value := l.map fun t => Value.string (str t)
theorem cellsS_append (l k : List Tx) : cellsS (l ++ k) = cellsS l ++ cellsS k := List.map_append
theorem cellsS_len (l : List Tx) : (cellsS l).length = l.length := List.length_map _
abbrev OwnS (w : World) (B : Nat) (v : Value) (l : List Tx) : Prop := w.ownsRow B 9 1 v l.length (cellsS l)
theorem OwnS.row {w : World} {B : Nat} {v : Value} {l : List Tx} (h : OwnS w B v l) : ∃ A cap, v = .slice A l.length cap ∧ RowS w A l ∧ l.length ≤ cap := by
  have h2 := h.2
  rcases h2 with ⟨rfl, hn⟩ | ⟨g, cap, cur, rfl, hb, hg, hnc, hcm, hcs, htake⟩
  · refine ⟨none, 0, by rw [hn], fun hl => absurd (List.eq_nil_of_length_eq_zero hn) hl, by omega⟩
  · refine ⟨some ⟨g, 0, none⟩, cap, rfl, fun _ => ⟨g, 0, rfl, (h.lt g rfl).2, fun i hi => ?_⟩, hnc⟩
    have hc := World.ownsRow.cells h (g := g) rfl
    have g1 := hc i (.string (str l[i])) (by simp [cellsS, hi])
    rw [plus] at g1
    rw [Nat.zero_add]
    exact g1
theorem OwnS.keep {w w1 : World} {B : Nat} {v : Value} {l : List Tx} (h : OwnS w B v l) (hb : Below w.heap.size w w1) : OwnS w1 B v l :=
  World.ownsRow.kept (row := none) h ⟨hb.os, hb.tape, hb.output, hb.size, fun i hi _ => hb.block i hi⟩ (by cases v.ownBlock <;> simp)
theorem ownS_nil (w : World) (B : Nat) : OwnS w B (.slice none 0 0) [] := World.ownsRow_nil _ _ _ _
theorem string_info : (Tryd.prog.info? 9).map (fun i => (i.zero, i.size, i.bytes)) = some (some (.string ByteArray.empty), 1, 16) := by kernel_rfl
theorem wp_oneS {ops : Array Oper} {rest : List Oper} {o : Oper} {a : Act} {Q : Exit → Act → World → Prop} {w : World} {B : Nat} {v : Value} {l : List Tx} {p : Tx} (hgd : o.guard = none) (s x : Operand)
    (ho : o.op = .call { callee := .builtin .append, args := #[s, x], argTypes := #[30, 30] }) (hs : a.eval s = v) {N : Nat} (hN : w.heap.size = N) (hx : a.eval x = .slice (some ⟨N, 0, none⟩) 1 1)
    (hown : OwnS w B v l) (hB : B ≤ w.heap.size) (hn : l.length ≤ 1000000)
    (h : ∀ v' w', OwnS w' B v' (l ++ [p]) → Below B w w' → wpList Tryd.prog ops Q rest (a.put o.dst v') w') :
    wpList Tryd.prog ops Q (o :: rest) a (w.alloc (.cells #[.string (str p)] 9)) := by
  subst hN
  obtain ⟨i0, hi, hz0, hz1, hz2⟩ := info_parts string_info
  refine wpList_append_own _ hgd s x 30 ho B 9 i0 _ 1 16 Tryd.underlying30 hi hz0 hz1 hz2 rfl (by decide) v l.length (cellsS l) hs (hown.alloc _) ⟨w.heap.size, 0, none⟩ 1 1 [.string (str p)] hx rfl ?_ ?_ ?_ ?_ ?_ ?_
  · intro j u hu
    rw [plus, World.cell?_alloc_at _ _ _ _ rfl]
    exact (by simpa using hu)
  · intro u hu
    simp only [List.mem_cons, List.not_mem_nil, or_false] at hu
    subst hu; rfl
  · unfold maxLen; omega
  · omega
  · simp only [World.size_alloc]; omega
  · intro v' w' h2 h3 _
    refine h v' w' (by rw [OwnS, cellsS_append, List.length_append]; exact h2) (((Below.refl B w).alloc hB _).grown h3 (by simp only [World.size_alloc]; omega) fun j hj => (hown.lt j hj).1)

/-- bytes as cells. -/
def cellsB (t : Tx) : List Value := t.map fun b => Value.int .u8 (b.toNat : Int)
theorem cellsB_len (t : Tx) : (cellsB t).length = t.length := List.length_map _
theorem cellsB_app (a b : Tx) : cellsB (a ++ b) = cellsB a ++ cellsB b := List.map_append
theorem strCells_is (t : Tx) : Lib.strCells (str t) = cellsB t := by unfold Lib.strCells cellsB; rw [str_list]
/-- the block of a slate's bytes: its capacity; none of it is frozen. -/
structure TextAt (w : World) (g : Nat) (t : Tx) (cap : Nat) : Prop where
  le : t.length ≤ cap
  small : cap ≤ maxLen
  row : ∃ cur fz, w.heap[g]? = some (.cells cur 5 fz) ∧ (cap ≤ fz.1 ∨ fz.2 = 0) ∧ cur.size = cap ∧ cur.toList.take t.length = cellsB t
theorem TextAt.lt {w : World} {g : Nat} {t : Tx} {cap : Nat} (h : TextAt w g t cap) : g < w.heap.size := by
  obtain ⟨cur, fz, h1, _⟩ := h.row
  exact (Array.getElem?_eq_some_iff.1 h1).1
theorem TextAt.cell {w : World} {g : Nat} {t : Tx} {cap : Nat} (h : TextAt w g t cap) (j : Nat) (hj : j < t.length) : w.cell? ⟨g, j, none⟩ = some (.int .u8 ((t[j]).toNat : Int)) := by
  obtain ⟨cur, fz, h1, _, h3, h4⟩ := h.row
  rw [cell_of_row w g j cur _ fz h1]
  have e : (cellsB t)[j]? = some (.int .u8 ((t[j]).toNat : Int)) := by simp [cellsB, hj]
  rw [← h4, List.getElem?_take, if_pos hj] at e
  simpa using e
theorem TextAt.of_block {w w' : World} {g : Nat} {t : Tx} {cap : Nat} (h : TextAt w g t cap) (e : w'.heap[g]? = w.heap[g]?) : TextAt w' g t cap := by
  obtain ⟨cur, fz, h1, h2⟩ := h.row
  exact ⟨h.le, h.small, cur, fz, by rw [e]; exact h1, h2⟩
theorem TextAt.take {w : World} {g : Nat} {t : Tx} {cap : Nat} (h : TextAt w g t cap) (k : Nat) (hk : k ≤ t.length) : TextAt w g (t.take k) cap := by
  obtain ⟨cur, fz, h1, h2, h3, h4⟩ := h.row
  have hl : (t.take k).length = k := by simp; omega
  refine ⟨by rw [hl]; have := h.le; omega, h.small, cur, fz, h1, h2, h3, ?_⟩
  rw [hl]
  have := congrArg (List.take k) h4
  rw [List.take_take, Nat.min_eq_left hk] at this
  rw [this]; simp [cellsB]
theorem TextAt.conv {w : World} {g : Nat} {t : Tx} {cap : Nat} (h : TextAt w g t cap) : (convert 46 9 (.slice (some ⟨g, 0, none⟩) t.length cap)).run Tryd.prog w = .ok (.string (str t)) w :=
  run_convert_bytes_back w _ _ 5 _ cap t Tryd.underlying46 Tryd.underlying5 Tryd.underlying9 (fun j hj => by rw [plus]; exact h.cell j hj)
theorem TextAt.own {w : World} {B g : Nat} {t : Tx} {cap : Nat} (h : w.ownsRow B 5 1 (.slice (some ⟨g, 0, none⟩) t.length cap) t.length (cellsB t)) : B ≤ g ∧ TextAt w g t cap := by
  rcases h.2 with ⟨h1, _⟩ | ⟨g1, cap1, cur, h1, hb, hg, hnc, hcm, hcs, ht⟩
  · cases h1
  · injection h1 with h1 _ h2
    injection h1 with h1
    injection h1 with h1
    subst h1 h2
    exact ⟨hb, hnc, hcm, cur, (0, 0), hg, Or.inr rfl, by simpa using hcs, by simpa using ht⟩
theorem bytesRow_len (s : ByteArray) (cap : Nat) : (bytesRow s cap).size = s.size + (cap - s.size) := by
  unfold bytesRow
  rw [Array.size_append, Array.size_map, Array.size_replicate]
  rfl
theorem bytes_conv (s : ByteArray) (n : Nat) (hn : s.size = n) (w : World) :
    (convert 9 46 (.string s)).run Tryd.prog w = .ok (.slice (some ⟨w.heap.size, 0, none⟩) n (grownCap w n 0 5))
      (w.drew.alloc (.cells (bytesRow s (grownCap w n 0 5)) 5 ((bytesRow s (grownCap w n 0 5)).size, (bytesRow s (grownCap w n 0 5)).size + 1))) := by
  subst hn
  exact run_bytes_of_string (P := Tryd.prog) w 9 46 5 s Tryd.underlying9 Tryd.underlying46 Tryd.underlying5
/-- the block of a conversion. -/
theorem text_new (w : World) (s : ByteArray) (cap : Nat) (hc : s.size ≤ cap) (hm : cap ≤ maxLen) :
    TextAt (w.alloc (.cells (bytesRow s cap) 5 ((bytesRow s cap).size, (bytesRow s cap).size + 1))) w.heap.size s.data.toList cap := by
  have hz : (bytesRow s cap).size = cap := by rw [bytesRow_len]; omega
  refine ⟨by rw [len_of]; exact hc, hm, _, _, heap_alloc_new w _, Or.inl (by show cap ≤ (bytesRow s cap).size; omega), hz, ?_⟩
  rw [len_of]
  unfold bytesRow cellsB
  have : s.size = (Array.map (fun b : UInt8 => Value.int .u8 (b.toNat : Int)) s.data).toList.length := by simp
  rw [Array.toList_append, List.take_append_of_le_length (by omega), this, List.take_length]
  simp

/-- what a change of a slate leaves as it was: all but its own block and its bytes'. -/
structure Chg (X g : Nat) (w w' : World) : Prop where
  os : w'.os = w.os
  tape : w'.tape = w.tape
  output : w'.output = w.output
  size : w.heap.size ≤ w'.heap.size
  block : ∀ k, k < w.heap.size → k ≠ X → k ≠ g → w'.heap[k]? = w.heap[k]?
theorem Chg.refl (X g : Nat) (w : World) : Chg X g w w := ⟨rfl, rfl, rfl, Nat.le_refl _, fun _ _ _ _ => rfl⟩
theorem Chg.trans {X g g2 : Nat} {a b c : World} (h : Chg X g a b) (k : Chg X g2 b c) (hg : g2 = g ∨ a.heap.size ≤ g2) : Chg X g a c :=
  ⟨k.os.trans h.os, k.tape.trans h.tape, k.output.trans h.output, Nat.le_trans h.size k.size, fun i hi h1 h2 =>
    (k.block i (Nat.lt_of_lt_of_le hi h.size) h1 (by rcases hg with rfl | hg; exact h2; omega)).trans (h.block i hi h1 h2)⟩
theorem Chg.of_below {X g B : Nat} {w w' : World} (h : Below B w w') (hB : w.heap.size ≤ B) : Chg X g w w' := ⟨h.os, h.tape, h.output, h.size, fun k hk _ _ => h.block k (Nat.lt_of_lt_of_le hk hB)⟩
theorem Chg.below {X g B : Nat} {w w' : World} (h : Chg X g w w') (hX : B ≤ X) (hg : B ≤ g) (hB : B ≤ w.heap.size) : Below B w w' :=
  ⟨h.os, h.tape, h.output, h.size, fun k hk => h.block k (by omega) (by omega) (by omega)⟩
theorem Chg.set {X g : Nat} {a w : World} (h : Chg X g a w) (k : Nat) (v : Value) : Chg X g a (w.setCell ⟨X, k, none⟩ v) :=
  have hb := Below.setCell (Below.refl X w) (p := ⟨X, k, none⟩) (Nat.le_refl X) v
  ⟨hb.os.trans h.os, hb.tape.trans h.tape, hb.output.trans h.output, Nat.le_trans h.size hb.size, fun i hi h1 h2 => (Below.heap_setCell w _ v i (fun e => h1 (by rw [e]))).trans (h.block i hi h1 h2)⟩
theorem Chg.grown {X g : Nat} {w w' : World} (h : w.grownBy w' (some g)) : Chg X g w w' := ⟨h.os, h.tape, h.output, h.size, fun i hi _ h2 => h.block i hi (fun e => h2 (Option.some.inj e))⟩
theorem Chg.drew {X g : Nat} {a w : World} (h : Chg X g a w) : Chg X g a w.drew := ⟨h.os, h.tape, h.output, h.size, h.block⟩
theorem Chg.cell {X g : Nat} {w w' : World} (h : Chg X g w w') {k j : Nat} {v : Value} (hc : w.cell? ⟨k, j, none⟩ = some v) (h1 : k ≠ X) (h2 : k ≠ g) : w'.cell? ⟨k, j, none⟩ = some v := by
  have := h.block k (block_lt_of_cell hc) h1 h2
  unfold World.cell? at hc ⊢
  simp only [this]; exact hc
theorem Chg.row {X g : Nat} {w w' : World} (h : Chg X g w w') {A : Option Addr} {l : List Tx} (hr : ∃ B, B ≤ X ∧ B ≤ g ∧ ∀ b o, A = some ⟨b, o, none⟩ → b < B) (k : RowS w A l) : RowS w' A l := fun hn => by
  obtain ⟨b, off, e, hl, hc⟩ := k hn
  obtain ⟨B, hX, hg, hb⟩ := hr
  have := hb b off e
  exact ⟨b, off, e, Nat.lt_of_lt_of_le hl h.size, fun i hi => h.cell (hc i hi) (by omega) (by omega)⟩

/-- a slate: its own block, its bytes' block. -/
structure SlateAt (w : World) (X g : Nat) (s : St) : Prop where
  ne : X ≠ g
  text : ∃ cap, w.cell? ⟨X, 0, none⟩ = some (.slice (some ⟨g, 0, none⟩) s.t.length cap) ∧ TextAt w g s.t cap
  offc : w.cell? ⟨X, 1, none⟩ = some (.bool s.off)
  limc : w.cell? ⟨X, 2, none⟩ = some (.bool s.lim)
  leftc : w.cell? ⟨X, 3, none⟩ = some (.int .i64 (s.left : Int))
  free : ∀ j, w.frozen? ⟨X, j, none⟩ = false
theorem SlateAt.lt {w : World} {X g : Nat} {s : St} (h : SlateAt w X g s) : X < w.heap.size := block_lt_of_cell h.offc
theorem SlateAt.ltg {w : World} {X g : Nat} {s : St} (h : SlateAt w X g s) : g < w.heap.size := by obtain ⟨_, _, h⟩ := h.text; exact h.lt
theorem SlateAt.of_blocks {w w' : World} {X g : Nat} {s : St} (h : SlateAt w X g s) (e1 : w'.heap[X]? = w.heap[X]?) (e2 : w'.heap[g]? = w.heap[g]?) : SlateAt w' X g s := by
  obtain ⟨cap, t1, t2⟩ := h.text
  have hc : ∀ j, w'.cell? ⟨X, j, none⟩ = w.cell? ⟨X, j, none⟩ := fun j => by unfold World.cell?; simp only [e1]
  have hf : ∀ j, w'.frozen? ⟨X, j, none⟩ = w.frozen? ⟨X, j, none⟩ := fun j => by unfold World.frozen?; simp only [e1]
  exact ⟨h.ne, ⟨cap, (hc 0).trans t1, t2.of_block e2⟩, (hc 1).trans h.offc, (hc 2).trans h.limc, (hc 3).trans h.leftc, fun j => (hf j).trans (h.free j)⟩
theorem SlateAt.keep {w w' : World} {X g : Nat} {s : St} (h : SlateAt w X g s) (hb : Below w.heap.size w w') : SlateAt w' X g s := h.of_blocks (hb.block X h.lt) (hb.block g h.ltg)
theorem SlateAt.other {w w' : World} {X g X2 g2 : Nat} {s : St} (h : SlateAt w X g s) (hc : Chg X2 g2 w w') (h1 : X ≠ X2) (h2 : X ≠ g2) (h3 : g ≠ X2) (h4 : g ≠ g2) : SlateAt w' X g s :=
  h.of_blocks (hc.block X h.lt h1 h2) (hc.block g h.ltg h3 h4)
/-- what a call makes of a slate. -/
def Turns (w : World) (X g : Nat) (s : St) (w' : World) : Prop := ∃ g', (g' = g ∨ w.heap.size ≤ g') ∧ SlateAt w' X g' s ∧ Chg X g w w'
theorem Turns.trans {w w1 w2 : World} {X g g1 : Nat} {s2 : St} (h0 : g1 = g ∨ w.heap.size ≤ g1) (hc : Chg X g w w1) (k : Turns w1 X g1 s2 w2) : Turns w X g s2 w2 := by
  obtain ⟨g2, k1, k2, k3⟩ := k
  have := hc.size
  exact ⟨g2, by rcases k1 with rfl | k1; exact h0; right; omega, k2, hc.trans k3 h0⟩

/-- the three cells behind. -/
theorem SlateAt.put {w : World} {X g : Nat} {s : St} (h : SlateAt w X g s) (o l : Bool) (n : Nat) :
    SlateAt (((w.setCell ⟨X, 1, none⟩ (.bool o)).setCell ⟨X, 2, none⟩ (.bool l)).setCell ⟨X, 3, none⟩ (.int .i64 (n : Int))) X g ⟨s.t, o, l, n⟩ := by
  obtain ⟨cap, t1, t2⟩ := h.text
  have e : ∀ W : World, ∀ k v, (W.setCell ⟨X, k, none⟩ v).heap[g]? = W.heap[g]? := fun W k v => Below.heap_setCell W _ v g (fun e => h.ne (by rw [e]))
  refine ⟨h.ne, ⟨cap, ?_, (t2.of_block ?_)⟩, ?_, ?_, ?_, fun j => ?_⟩
  · simp [World.cell?_setCell_other, t1]
  · rw [e, e, e]
  · simp [World.cell?_setCell_other, h.offc, World.cell?_setCell_same]
  · simp [World.cell?_setCell_other, h.limc, World.cell?_setCell_same]
  · simp [World.cell?_setCell_other, h.leftc, World.cell?_setCell_same]
  · simp only [World.frozen?_setCell]; exact h.free j

end Go.Proofs.YtimhbpfeofdfnaaDoor

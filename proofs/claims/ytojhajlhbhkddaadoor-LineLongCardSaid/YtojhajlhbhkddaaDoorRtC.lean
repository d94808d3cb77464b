/- Put together: RtA RtB RtC. -/
import Derived.Test.YtojhajlhbhkddaaDoorRuX
import Derived.Test.YtojhajlhbhkddaaDoorCivS
import Derived.Test.YtojhajlhbhkddaaDoorRtText
import Derived.Laws.MakeOwn
import Derived.Test.YtojhajlhbhkddaaDoorRuC
import Derived.Laws.IdiomStrings
import Derived.Great.BuildSlice
import Derived.RegionTactic
import Derived.Lib.IndexBytes
import Derived.Lib.ItoaLen

/- Rows of texts in memory, a call's own ones, one text more behind them; a text looked for in a row. -/
namespace Go.Proofs.YtojhajlhbhkddaaDoor
open Go.RowKit Rul Rt Go.Sort

def RowS (w : World) (A : Option Addr) (l : List Tx) : Prop :=
  l ≠ [] → ∃ b off, A = some ⟨b, off, none⟩ ∧ b < w.heap.size ∧ ∀ i (h : i < l.length), w.cell? ⟨b, off + i, none⟩ = some (.string (str l[i]))
theorem RowS.keep {w w' : World} {A : Option Addr} {l : List Tx} (h : RowS w A l) (hb : Below w.heap.size w w') : RowS w' A l := fun hn => by
  obtain ⟨b, off, e, hl, hc⟩ := h hn
  exact ⟨b, off, e, Nat.lt_of_lt_of_le hl hb.size, fun i hi => (hb.cell (p := ⟨b, _, none⟩) hl).trans (hc i hi)⟩
theorem RowS.nil (w : World) (A : Option Addr) : RowS w A [] := fun h => absurd rfl h
def cellsS (l : List Tx) : List Value := l.map fun t => Value.string (str t)
theorem cellsS_append (l k : List Tx) : cellsS (l ++ k) = cellsS l ++ cellsS k := List.map_append
theorem cellsS_len (l : List Tx) : (cellsS l).length = l.length := List.length_map _
abbrev OwnS (w : World) (B : Nat) (v : Value) (l : List Tx) : Prop := w.ownsRow B 9 1 v l.length (cellsS l)
theorem OwnS.row {w : World} {B : Nat} {v : Value} {l : List Tx} (h : OwnS w B v l) : ∃ A cap, v = .slice A l.length cap ∧ RowS w A l ∧ l.length ≤ cap := by
  have h2 := h.2
  rcases h2 with ⟨rfl, hn⟩ | ⟨g, cap, cur, rfl, hb, hg, hnc, hcm, hcs, htake⟩
  · refine ⟨none, 0, by rw [hn], fun hl => absurd (List.eq_nil_of_length_eq_zero hn) hl, by omega⟩
  · refine ⟨some ⟨g, 0, none⟩, cap, rfl, fun _ => ⟨g, 0, rfl, (h.lt g rfl).2, fun i hi => ?_⟩, hnc⟩
    have hc := World.ownsRow.cells h (g := g) rfl
    have g1 := hc i (.string (str l[i])) (by simp [cellsS, hi])
    rw [plus] at g1
    rw [Nat.zero_add]
    exact g1
theorem OwnS.keep {w w1 : World} {B : Nat} {v : Value} {l : List Tx} (h : OwnS w B v l) (hb : Below w.heap.size w w1) : OwnS w1 B v l :=
  World.ownsRow.kept (row := none) h ⟨hb.os, hb.tape, hb.output, hb.size, fun i hi _ => hb.block i hi⟩ (by cases v.ownBlock <;> simp)
theorem ownS_nil (w : World) (B : Nat) : OwnS w B (.slice none 0 0) [] := World.ownsRow_nil _ _ _ _
theorem OwnS.low {w : World} {B B2 : Nat} {v : Value} {l : List Tx} (h : OwnS w B v l) (hb : B2 ≤ B) : OwnS w B2 v l := by
  refine ⟨h.1, ?_⟩
  rcases h.2 with g | ⟨g, cap, cur, e, hg, r⟩
  · exact Or.inl g
  · exact Or.inr ⟨g, cap, cur, e, Nat.le_trans hb hg, r⟩
theorem string_info : (Tryd.prog.info? 9).map (fun i => (i.zero, i.size, i.bytes)) = some (some (.string ByteArray.empty), 1, 16) := by kernel_rfl
theorem wp_oneS {ops : Array Oper} {rest : List Oper} {o : Oper} {a : Act} {Q : Exit → Act → World → Prop} {w : World} {B : Nat} {v : Value} {l : List Tx} {p : Tx} (hgd : o.guard = none) (s x : Operand)
    (ho : o.op = .call { callee := .builtin .append, args := #[s, x], argTypes := #[25, 25] }) (hs : a.eval s = v) {N : Nat} (hN : w.heap.size = N) (hx : a.eval x = .slice (some ⟨N, 0, none⟩) 1 1)
    (hown : OwnS w B v l) (hB : B ≤ w.heap.size) (hn : l.length ≤ 1000000)
    (h : ∀ v' w', OwnS w' B v' (l ++ [p]) → Below B w w' → wpList Tryd.prog ops Q rest (a.put o.dst v') w') :
    wpList Tryd.prog ops Q (o :: rest) a (w.alloc (.cells #[.string (str p)] 9)) := by
  subst hN
  obtain ⟨i0, hi, hz0, hz1, hz2⟩ := info_parts string_info
  refine wpList_append_own _ hgd s x 25 ho B 9 i0 _ 1 16 Tryd.underlying25 hi hz0 hz1 hz2 rfl (by decide) v l.length (cellsS l) hs (hown.alloc _) ⟨w.heap.size, 0, none⟩ 1 1 [.string (str p)] hx rfl ?_ ?_ ?_ ?_ ?_ ?_
  · intro j u hu
    rw [plus, World.cell?_alloc_at _ _ _ _ rfl]
    exact (by simpa using hu)
  · intro u hu
    simp only [List.mem_cons, List.not_mem_nil, or_false] at hu
    subst hu; rfl
  · unfold maxLen; omega
  · omega
  · simp only [World.size_alloc]; omega
  · intro v' w' h2 h3 _
    refine h v' w' (by rw [OwnS, cellsS_append, List.length_append]; exact h2) (((Below.refl B w).alloc hB _).grown h3 (by simp only [World.size_alloc]; omega) fun j hj => (hown.lt j hj).1)
theorem wp_makeS {ops : Array Oper} {rest : List Oper} {o : Oper} {a : Act} {Q : Exit → Act → World → Prop} {w : World} (hgd : o.guard = none) (l c : Operand)
    (ho : o.op = .makeSlice 25 l c) (hl : a.eval l = .int .i64 0) {C : Int} {n : Nat} (hc : a.eval c = .int .i64 C) (hC : C = (n : Int)) (hn : n ≤ 1000000)
    (h : ∀ v w', OwnS w' w.heap.size v [] → Below w.heap.size w w' → wpList Tryd.prog ops Q rest (a.put o.dst v) w') :
    wpList Tryd.prog ops Q (o :: rest) a w := by
  obtain ⟨i0, hi, hz0, hz1, hz2⟩ := info_parts string_info
  refine wpList_make_own w hgd l c 25 ho w.heap.size 9 i0 _ 1 Tryd.underlying25 hi hz0 hz1 .i64 .i64 C n hl hc hC (by rw [hz2]; omega) (by unfold maxLen; omega) (Nat.le_refl _) ?_
  intro w' h2 h3
  exact h _ w' h2 ((Below.refl w.heap.size w).grown h3 (Nat.le_refl _) fun j hj => by cases hj)

theorem tx_eq (a b : Tx) : (a == b) = decide (a = b) := by
  by_cases h : a = b
  · subst h; simp
  · simp [h]
/-- where a text is in a row; -1: nowhere. -/
def ixE (l : List Tx) (x : Tx) : Int := match ixOf l x with
  | some k => k
  | none => -1
theorem ixOf_at {x : Tx} : ∀ (l : List Tx) (j : Nat) (hj : j < l.length), (∀ i (hi : i < l.length), i < j → l[i] ≠ x) → l[j] = x → ixOf l x = some j
  | [], j, hj, _, _ => by simp at hj
  | y :: l, 0, hj, _, h => by
    have : y = x := h
    unfold ixOf; rw [if_pos this]
  | y :: l, j + 1, hj, hn, h => by
    have h0 : y ≠ x := hn 0 (by simp) (by omega)
    unfold ixOf
    rw [if_neg h0, ixOf_at l j (by simpa using hj) (fun i hi hij => hn (i + 1) (by simpa using hi) (by omega)) h]
    rfl
theorem ixOf_nowhere {x : Tx} : ∀ (l : List Tx), (∀ i (hi : i < l.length), l[i] ≠ x) → ixOf l x = none
  | [], _ => rfl
  | y :: l, hn => by
    have h0 : y ≠ x := hn 0 (by simp)
    unfold ixOf
    rw [if_neg h0, ixOf_nowhere l fun i hi => hn (i + 1) (by simpa using hi)]
    rfl
theorem ixE_at (l : List Tx) (x : Tx) (j : Nat) (hj : j < l.length) (hn : ∀ i (hi : i < l.length), i < j → l[i] ≠ x) (h : l[j] = x) : ixE l x = j := by
  unfold ixE; rw [ixOf_at l j hj hn h]
theorem ixE_no (l : List Tx) (x : Tx) (hn : ∀ i (hi : i < l.length), l[i] ≠ x) : ixE l x = -1 := by
  unfold ixE; rw [ixOf_nowhere l hn]
theorem ixE_mem (l : List Tx) (x : Tx) : decide (0 ≤ ixE l x) = decide (x ∈ l) := by
  unfold ixE
  cases h : ixOf l x with
  | none => rw [decide_eq_false (ixOf_none h)]; rfl
  | some k => rw [decide_eq_true (List.mem_of_getElem? (ixOf_some h))]; exact decide_eq_true (Int.natCast_nonneg k)

end Go.Proofs.YtojhajlhbhkddaaDoor

/- Walks of the document's numbers as texts: Num. -/
namespace Go.Proofs.YtojhajlhbhkddaaDoor
open Go.RowKit Rul Rt

theorem bs1 (p : Int) (w : World) : (Instr.buildSlice 24 1 #[(0, .int .u8 p)]).run Tryd.prog w = .ok (.slice (some ⟨w.heap.size, 0, none⟩) 1 1) (w.alloc (.cells #[.int .u8 p] 5)) := by kernel_rfl
theorem cv1 (p : Int) (w : World) (b : Nat) (p1 : 0 ≤ p) (p2 : p ≤ 255) (hc : w.cell? ⟨b, 0, none⟩ = some (.int .u8 p)) :
    (convert 24 9 (.slice (some ⟨b, 0, none⟩) 1 1)).run Tryd.prog w = .ok (.string (str [UInt8.ofNat p.toNat])) w := by
  refine run_convert_bytes_back (P := Tryd.prog) w 24 9 5 ⟨b, 0, none⟩ 1 [UInt8.ofNat p.toNat] Tryd.underlying24 Tryd.underlying5 Tryd.underlying9 ?_
  intro j hj
  have hj2 : j = 0 := by simp at hj; omega
  subst hj2
  simp [Addr.add, hc]; omega

end Go.Proofs.YtojhajlhbhkddaaDoor

/- Walks of the document's texts: Cut, Dec. -/
namespace Go.Proofs.YtojhajlhbhkddaaDoor
open Go.RowKit Rul Rt Go.Sort

def GivesS (w : World) (l : List Tx) (e : Ending) (w' : World) : Prop := ∃ v, e = .returned v ∧ OwnS w' w.heap.size v l ∧ Below w.heap.size w w'
theorem GivesS.is {w : World} {l k : List Tx} {e : Ending} {w' : World} (h : GivesS w l e w') (he : l = k) : GivesS w k e w' := he ▸ h
theorem len_of (s : ByteArray) : s.data.toList.length = s.size := by simp
theorem byte_eq (a b : UInt8) : ((a.toNat : Int) == (b.toNat : Int)) = decide (a = b) := by
  by_cases h : a = b
  · subst h; simp
  · rw [decide_eq_false h, beq_eq_false_iff_ne]
    intro e; exact h (UInt8.toNat_inj.1 (by omega))
theorem str_of (s : ByteArray) : s = str s.data.toList := by apply ByteArray.ext; simp [str]
theorem ext_str (s : ByteArray) (a b : Nat) : s.extract a b = str ((s.data.toList.take b).drop a) := by
  rw [str_of (s.extract a b), Lib.extract_data]
  congr 1
  rw [List.drop_take]
theorem ext_end (s : ByteArray) (a : Nat) : s.extract a s.size = str (s.data.toList.drop a) := by
  rw [ext_str]
  congr 2
  exact List.take_of_length_le (by simp)
theorem take_next (s : ByteArray) (k : Nat) (h : k < s.size) : s.data.toList.take (k + 1) = s.data.toList.take k ++ [s[k]] := by
  rw [List.take_succ_eq_append_getElem (by simpa using h)]; rfl
/-- the pieces behind one byte more. -/
theorem cut_here (c : UInt8) (l : Tx) (done : List Tx) (x : Tx) (h : cutAt c l = done ++ [x]) : cutAt c (l ++ [c]) = (done ++ [x]) ++ [[]] := by
  rw [cutAt_snoc, if_pos rfl, h]
theorem cut_there (c b : UInt8) (hb : b ≠ c) (l : Tx) (done : List Tx) (x : Tx) (h : cutAt c l = done ++ [x]) : cutAt c (l ++ [b]) = done ++ [x ++ [b]] := by
  rw [cutAt_snoc, if_neg hb, h]
  simp

/-- what Dec answers. -/
def decA (t : Tx) (b : Bool) : Value := .tuple #[.int .i64 ((decR t b).getD 0), .bool (decR t b).isSome]
theorem decA_none {t : Tx} {b : Bool} (h : decR t b = none) : decA t b = .tuple #[.int .i64 0, .bool false] := by unfold decA; rw [h]; rfl
theorem decA_some {t : Tx} {b : Bool} {n : Int} (h : decR t b = some n) : decA t b = .tuple #[.int .i64 n, .bool true] := by unfold decA; rw [h]; rfl
theorem mag_of (t : Tx) (neg : Bool) (h1 : 1 ≤ t.length) (h8 : t.length ≤ 8) (h0 : (t.head? == some 48 && (decide (1 < t.length) || neg)) = false) : magR t neg = t.all dgt := by
  unfold magR
  rw [decide_eq_true h1, decide_eq_true h8, h0]; rfl
theorem all_not (s : ByteArray) (k : Nat) (h : k < s.size) (hd : dgt s[k] = false) : s.data.toList.all dgt = false := by
  rw [Bool.eq_false_iff]
  intro ha
  rw [List.all_eq_true] at ha
  have := ha s[k] (by simp [ByteArray.getElem_eq_getElem_data])
  rw [hd] at this
  cases this
theorem dgt_no (c : UInt8) (h : (c.toNat : Int) < 48 ∨ 57 < (c.toNat : Int)) : dgt c = false := by
  rw [Bool.eq_false_iff]; intro hc; rw [dgt_iff] at hc; omega
theorem dgt_yes (c : UInt8) (h1 : ¬ (c.toNat : Int) < 48) (h2 : ¬ 57 < (c.toNat : Int)) : dgt c = true := by rw [dgt_iff]; omega
theorem vl_small (t : Tx) (k : Nat) (hk : k ≤ 8) (h : (t.take k).all dgt = true) : vl (t.take k) < 100000000 := by
  have h1 := vl_lt _ _ rfl h
  have h2 : (t.take k).length ≤ 8 := by rw [List.length_take]; omega
  have h3 : (10 : Nat) ^ (t.take k).length ≤ 10 ^ 8 := Nat.pow_le_pow_right (by omega) h2
  omega
theorem head_at (s : ByteArray) (h : 0 < s.size) : s.data.toList.head? = some s[0] := by
  have hl : 0 < s.data.toList.length := by simpa using h
  rw [List.head?_eq_getElem?, List.getElem?_eq_getElem hl]; rfl

end Go.Proofs.YtojhajlhbhkddaaDoor

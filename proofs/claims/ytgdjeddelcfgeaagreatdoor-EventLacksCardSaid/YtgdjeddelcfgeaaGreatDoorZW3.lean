/- RtC; RtD of the recipes, what is needed of them. -/
import Derived.Laws.MakeOwn
import Derived.Laws.IdiomStrings
import Derived.Great.BuildSlice
import Derived.RegionTactic
import Derived.Lib.IndexBytes
import Derived.Lib.ItoaLen
import Derived.Test.YtgdjeddelcfgeaaGreatDoorZW2
import Derived.Test.YtgdjeddelcfgeaaGreatDoorZM1
import Derived.Test.YtgdjeddelcfgeaaGreatDoorZM2
namespace Go.Proofs.YtgdjeddelcfgeaaGreatDoor
open Go.RowKit Rul Rt Go.Sort

def RowS (w : World) (A : Option Addr) (l : List Tx) : Prop :=
  l ≠ [] → ∃ b off, A = some ⟨b, off, none⟩ ∧ b < w.heap.size ∧ ∀ i (h : i < l.length), w.cell? ⟨b, off + i, none⟩ = some (.string (str l[i]))
theorem RowS.keep {w w' : World} {A : Option Addr} {l : List Tx} (h : RowS w A l) (hb : Below w.heap.size w w') : RowS w' A l := fun hn => by
  obtain ⟨b, off, e, hl, hc⟩ := h hn
  exact ⟨b, off, e, Nat.lt_of_lt_of_le hl hb.size, fun i hi => (hb.cell (p := ⟨b, _, none⟩) hl).trans (hc i hi)⟩
theorem RowS.nil (w : World) (A : Option Addr) : RowS w A [] := fun h => absurd rfl h
def cellsS (l : List Tx) : List Value := l.map fun t => Value.string (str t)
theorem cellsS_append (l k : List Tx) : cellsS (l ++ k) = cellsS l ++ cellsS k := List.map_append
theorem cellsS_len (l : List Tx) : (cellsS l).length = l.length := List.length_map _
abbrev OwnS (w : World) (B : Nat) (v : Value) (l : List Tx) : Prop := w.ownsRow B 9 1 v l.length (cellsS l)
theorem OwnS.row {w : World} {B : Nat} {v : Value} {l : List Tx} (h : OwnS w B v l) : ∃ A cap, v = .slice A l.length cap ∧ RowS w A l ∧ l.length ≤ cap := by
  have h2 := h.2
  rcases h2 with ⟨rfl, hn⟩ | ⟨g, cap, cur, rfl, hb, hg, hnc, hcm, hcs, htake⟩
  · refine ⟨none, 0, by rw [hn], fun hl => absurd (List.eq_nil_of_length_eq_zero hn) hl, by omega⟩
  · refine ⟨some ⟨g, 0, none⟩, cap, rfl, fun _ => ⟨g, 0, rfl, (h.lt g rfl).2, fun i hi => ?_⟩, hnc⟩
    have hc := World.ownsRow.cells h (g := g) rfl
    have g1 := hc i (.string (str l[i])) (by simp [cellsS, hi])
    rw [plus] at g1
    rw [Nat.zero_add]
    exact g1
theorem OwnS.keep {w w1 : World} {B : Nat} {v : Value} {l : List Tx} (h : OwnS w B v l) (hb : Below w.heap.size w w1) : OwnS w1 B v l :=
  World.ownsRow.kept (row := none) h ⟨hb.os, hb.tape, hb.output, hb.size, fun i hi _ => hb.block i hi⟩ (by cases v.ownBlock <;> simp)
theorem ownS_nil (w : World) (B : Nat) : OwnS w B (.slice none 0 0) [] := World.ownsRow_nil _ _ _ _
theorem OwnS.low {w : World} {B B2 : Nat} {v : Value} {l : List Tx} (h : OwnS w B v l) (hb : B2 ≤ B) : OwnS w B2 v l := by
  refine ⟨h.1, ?_⟩
  rcases h.2 with g | ⟨g, cap, cur, e, hg, r⟩
  · exact Or.inl g
  · exact Or.inr ⟨g, cap, cur, e, Nat.le_trans hb hg, r⟩
theorem string_info : (Tryz.prog.info? 9).map (fun i => (i.zero, i.size, i.bytes)) = some (some (.string ByteArray.empty), 1, 16) := by kernel_rfl
theorem wp_oneS {ops : Array Oper} {rest : List Oper} {o : Oper} {a : Act} {Q : Exit → Act → World → Prop} {w : World} {B : Nat} {v : Value} {l : List Tx} {p : Tx} (hgd : o.guard = none) (s x : Operand)
    (ho : o.op = .call { callee := .builtin .append, args := #[s, x], argTypes := #[32, 32] }) (hs : a.eval s = v) {N : Nat} (hN : w.heap.size = N) (hx : a.eval x = .slice (some ⟨N, 0, none⟩) 1 1)
    (hown : OwnS w B v l) (hB : B ≤ w.heap.size) (hn : l.length ≤ 1000000)
    (h : ∀ v' w', OwnS w' B v' (l ++ [p]) → Below B w w' → wpList Tryz.prog ops Q rest (a.put o.dst v') w') :
    wpList Tryz.prog ops Q (o :: rest) a (w.alloc (.cells #[.string (str p)] 9)) := by
  subst hN
  obtain ⟨i0, hi, hz0, hz1, hz2⟩ := info_parts string_info
  refine wpList_append_own _ hgd s x 32 ho B 9 i0 _ 1 16 Tryz.underlying32 hi hz0 hz1 hz2 rfl (by decide) v l.length (cellsS l) hs (hown.alloc _) ⟨w.heap.size, 0, none⟩ 1 1 [.string (str p)] hx rfl ?_ ?_ ?_ ?_ ?_ ?_
  · intro j u hu
    rw [plus, World.cell?_alloc_at _ _ _ _ rfl]
    exact (by simpa using hu)
  · intro u hu
    simp only [List.mem_cons, List.not_mem_nil, or_false] at hu
    subst hu; rfl
  · unfold maxLen; omega
  · omega
  · simp only [World.size_alloc]; omega
  · intro v' w' h2 h3 _
    refine h v' w' (by rw [OwnS, cellsS_append, List.length_append]; exact h2) (((Below.refl B w).alloc hB _).grown h3 (by simp only [World.size_alloc]; omega) fun j hj => (hown.lt j hj).1)
theorem wp_makeS {ops : Array Oper} {rest : List Oper} {o : Oper} {a : Act} {Q : Exit → Act → World → Prop} {w : World} (hgd : o.guard = none) (l c : Operand)
    (ho : o.op = .makeSlice 32 l c) (hl : a.eval l = .int .i64 0) {C : Int} {n : Nat} (hc : a.eval c = .int .i64 C) (hC : C = (n : Int)) (hn : n ≤ 1000000)
    (h : ∀ v w', OwnS w' w.heap.size v [] → Below w.heap.size w w' → wpList Tryz.prog ops Q rest (a.put o.dst v) w') :
    wpList Tryz.prog ops Q (o :: rest) a w := by
  obtain ⟨i0, hi, hz0, hz1, hz2⟩ := info_parts string_info
  refine wpList_make_own w hgd l c 32 ho w.heap.size 9 i0 _ 1 Tryz.underlying32 hi hz0 hz1 .i64 .i64 C n hl hc hC (by rw [hz2]; omega) (by unfold maxLen; omega) (Nat.le_refl _) ?_
  intro w' h2 h3
  exact h _ w' h2 ((Below.refl w.heap.size w).grown h3 (Nat.le_refl _) fun j hj => by cases hj)

theorem tx_eq (a b : Tx) : (a == b) = decide (a = b) := by
  by_cases h : a = b
  · subst h; simp
  · simp [h]
/-- where a text is in a row; -1: nowhere. -/
def ixE (l : List Tx) (x : Tx) : Int := match ixOf l x with
  | some k => k
  | none => -1
theorem ixOf_at {x : Tx} : ∀ (l : List Tx) (j : Nat) (hj : j < l.length), (∀ i (hi : i < l.length), i < j → l[i] ≠ x) → l[j] = x → ixOf l x = some j
  | [], j, hj, _, _ => by simp at hj
  | y :: l, 0, hj, _, h => by
    have : y = x := h
    unfold ixOf; rw [if_pos this]
  | y :: l, j + 1, hj, hn, h => by
    have h0 : y ≠ x := hn 0 (by simp) (by omega)
    unfold ixOf
    rw [if_neg h0, ixOf_at l j (by simpa using hj) (fun i hi hij => hn (i + 1) (by simpa using hi) (by omega)) h]
    rfl
theorem ixOf_nowhere {x : Tx} : ∀ (l : List Tx), (∀ i (hi : i < l.length), l[i] ≠ x) → ixOf l x = none
  | [], _ => rfl
  | y :: l, hn => by
    have h0 : y ≠ x := hn 0 (by simp)
    unfold ixOf
    rw [if_neg h0, ixOf_nowhere l fun i hi => hn (i + 1) (by simpa using hi)]
    rfl
theorem ixE_at (l : List Tx) (x : Tx) (j : Nat) (hj : j < l.length) (hn : ∀ i (hi : i < l.length), i < j → l[i] ≠ x) (h : l[j] = x) : ixE l x = j := by
  unfold ixE; rw [ixOf_at l j hj hn h]
theorem ixE_no (l : List Tx) (x : Tx) (hn : ∀ i (hi : i < l.length), l[i] ≠ x) : ixE l x = -1 := by
  unfold ixE; rw [ixOf_nowhere l hn]
theorem ixE_mem (l : List Tx) (x : Tx) : decide (0 ≤ ixE l x) = decide (x ∈ l) := by
  unfold ixE
  cases h : ixOf l x with
  | none => rw [decide_eq_false (ixOf_none h)]; rfl
  | some k => rw [decide_eq_true (List.mem_of_getElem? (ixOf_some h))]; exact decide_eq_true (Int.natCast_nonneg k)

set_option maxRecDepth 100000 in
set_option maxHeartbeats 1000000 in
theorem ixS_any (m : Tx) (A : Option Addr) (n c : Nat) (l : List Tx) (w : World) (hl : RowS w A l) (hn : n = l.length) (hsz : l.length ≤ 1000) :
    Calls Tryz.prog 145 #[.slice A n c, .string (str m)] w (Ans w (.int .i64 (ixE l m))) := by
  subst hn
  by_cases hnil : l = []
  · subst hnil
    go_enter Tryz.func145, Tryz.ntmps145
    go_wp2_with fail
    refine wp_loop_rounds 1 ?_
    rw [rounds_succ]
    go_wp2_with fail
    go_ret
    exact ⟨rfl, start _⟩
  · obtain ⟨b1, o1, rfl, hb1, hc1⟩ := hl hnil
    have HC1 := hide hc1
    clear hl hc1 hnil
    go_enter Tryz.func145, Tryz.ntmps145
    go_wp2_with fail
    go_loopw [8] (fun i wr => ∃ j : Nat, j ≤ l.length ∧ i = .int .i64 j ∧ (∀ i (hi : i < l.length), i < j → l[i] ≠ m) ∧ Below w.heap.size w wr) (fun i _ => l.length - (intOf i).toNat)
    case atStart => exact ⟨0, Nat.zero_le _, rfl, fun i hi h => absurd h (Nat.not_lt_zero _), start _⟩
    case round =>
      obtain ⟨j, hj, rfl, heq, hbw⟩ := hrel
      have HE := hide heq
      clear heq
      by_cases hlt : j < l.length
      · obtain ⟨x, hx⟩ : ∃ x, l[j] = x := ⟨_, rfl⟩
        have p1 : wr.cell? ⟨b1, o1 + j, none⟩ = some (.string (str x)) := by rw [← hx]; exact (hbw.cell (p := ⟨b1, _, none⟩) hb1).trans (HC1.out j hlt)
        have hi0 : (0 : Int) ≤ (j : Int) := by omega
        have hi1 : (j : Int) < (l.length : Int) := by omega
        have q1 := str_tl x
        have q2 := str_tl m
        by_cases hq : m = x
        · have HN := hide (ixE_at l m j hlt HE.out (by rw [hx, hq]))
          have q3 : (m == x) = true := by rw [tx_eq, decide_eq_true hq]
          have q4 : (x == m) = true := by rw [tx_eq, decide_eq_true hq.symm]
          clear hx hq
          go_wp2_with fail
          go_ret
          exact ⟨ret_int HN.out.symm, hbw⟩
        · have HN : Hid (∀ i (hi : i < l.length), i < j + 1 → l[i] ≠ m) := hide (fun i hi hij => by
            rcases Nat.lt_or_ge i j with g | g
            · exact HE.out i hi g
            · obtain rfl : i = j := by omega
              rw [hx]; exact fun e => hq e.symm)
          have q3 : (m == x) = false := by rw [tx_eq, decide_eq_false hq]
          have q4 : (x == m) = false := by rw [tx_eq, decide_eq_false fun e => hq e.symm]
          clear hx hq
          go_wp2_with fail
          go_roundw
          case rel => exact ⟨j + 1, by omega, by go_num, HN.out, hbw⟩
          case measure => simp [intOf]; omega
      · obtain rfl : j = l.length := by omega
        have HF := hide (ixE_no l m fun i hi => HE.out i hi hi)
        go_wp2_with fail
        go_ret
        exact ⟨ret_int HF.out.symm, hbw⟩

set_option maxHeartbeats 400000 in
theorem containsS_any (m : Tx) (A : Option Addr) (n c : Nat) (l : List Tx) (w : World) (hl : RowS w A l) (hn : n = l.length) (hsz : l.length ≤ 1000) :
    Calls Tryz.prog 116 #[.slice A n c, .string (str m)] w (Ans w (.bool (decide (m ∈ l)))) := by
  subst hn
  have HL := hide hl
  have HM := hide (ixE_mem l m)
  clear hl
  go_enter Tryz.func116, Tryz.ntmps116
  go_wp2_with fail
  refine (ixS_any m A _ c l _ HL.out rfl hsz).mono ?_
  rintro e w1 ⟨rfl, hb⟩
  go_wp2_with fail
  go_ret
  exact ⟨ret_bool HM.out, hb⟩

end Go.Proofs.YtgdjeddelcfgeaaGreatDoor

namespace Go.Proofs.YtgdjeddelcfgeaaGreatDoor
open Go.RowKit Rul Rt

end Go.Proofs.YtgdjeddelcfgeaaGreatDoor

namespace Go.Proofs.YtgdjeddelcfgeaaGreatDoor
open Go.RowKit Rul Rt Go.Sort

def GivesS (w : World) (l : List Tx) (e : Ending) (w' : World) : Prop := ∃ v, e = .returned v ∧ OwnS w' w.heap.size v l ∧ Below w.heap.size w w'
theorem GivesS.is {w : World} {l k : List Tx} {e : Ending} {w' : World} (h : GivesS w l e w') (he : l = k) : GivesS w k e w' := he ▸ h
theorem len_of (s : ByteArray) : s.data.toList.length = s.size := by simp
theorem byte_eq (a b : UInt8) : ((a.toNat : Int) == (b.toNat : Int)) = decide (a = b) := by
  by_cases h : a = b
  · subst h; simp
  · rw [decide_eq_false h, beq_eq_false_iff_ne]
    intro e; exact h (UInt8.toNat_inj.1 (by omega))
theorem str_of (s : ByteArray) : s = str s.data.toList := by apply ByteArray.ext; simp [str]
theorem ext_str (s : ByteArray) (a b : Nat) : s.extract a b = str ((s.data.toList.take b).drop a) := by
  rw [str_of (s.extract a b), Lib.extract_data]
  congr 1
  rw [List.drop_take]
theorem ext_end (s : ByteArray) (a : Nat) : s.extract a s.size = str (s.data.toList.drop a) := by
  rw [ext_str]
  congr 2
  exact List.take_of_length_le (by simp)
theorem take_next (s : ByteArray) (k : Nat) (h : k < s.size) : s.data.toList.take (k + 1) = s.data.toList.take k ++ [s[k]] := by
  rw [List.take_succ_eq_append_getElem (by simpa using h)]; rfl
end Go.Proofs.YtgdjeddelcfgeaaGreatDoor
namespace Go.Proofs.YtgdjeddelcfgeaaGreatDoor
open Go.RowKit Rul Rt Go.Sort

theorem join_len (c : UInt8) (K : Nat) : ∀ ps : List Tx, (∀ p ∈ ps, p.length ≤ K) → (joinAt c ps).length ≤ ps.length * (K + 1)
  | [], _ => by simp [joinAt]
  | [p], h => by have := h p (by simp); simp [joinAt]; omega
  | p :: q :: r, h => by
    have h1 := h p (by simp)
    have h2 := join_len c K (q :: r) fun x hx => h x (List.mem_cons_of_mem _ hx)
    rw [joinAt, List.length_append, List.length_cons, List.length_cons (a := p), Nat.succ_mul]
    omega
theorem listT_len {α : Type} (f : α → Tx) (K : Nat) (l : List α) (h : ∀ x ∈ l, (f x).length ≤ K) : (listT f l).length ≤ l.length * (K + 1) := by
  have := join_len 44 K (l.map f) fun p hp => by
    obtain ⟨x, hx, rfl⟩ := List.mem_map.1 hp; exact h x hx
  rwa [List.length_map] at this

end Go.Proofs.YtgdjeddelcfgeaaGreatDoor

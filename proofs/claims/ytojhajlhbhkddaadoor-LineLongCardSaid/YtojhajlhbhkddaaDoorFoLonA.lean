/- A row of bytes made at a length, and written byte by byte; what one byte many times is as a text. -/
import Derived.Test.YtojhajlhbhkddaaDoorRtC
import Derived.Laws.MakeOwn
import Derived.Laws.IdiomStrings
namespace Go.Proofs.YtojhajlhbhkddaaDoor
open Go.RowKit Rul Rt Go.Sort

theorem byte_info : (Tryd.prog.info? 5).map (fun i => (i.zero, i.size, i.bytes)) = some (some (.int .u8 0), 1, 1) := by kernel_rfl
theorem made_zero (n : Nat) : madeCells (Value.int .u8 0).cells n = Array.replicate n (Value.int .u8 0) := by
  apply Array.ext
  · rw [size_madeCells, Array.size_replicate]
  · intro i h1 h2
    simp [madeCells, Value.cells, Nat.mod_one]
theorem wp_makeB {ops : Array Oper} {rest : List Oper} {o : Oper} {a : Act} {Q : Exit → Act → World → Prop} {w : World} (hgd : o.guard = none) (l c : Operand)
    (ho : o.op = .makeSlice 24 l c) {n : Nat} (hl : a.eval l = .int .i64 n) (hc : a.eval c = .int .i64 n) (hn : n ≤ 1000000)
    (h : wpList Tryd.prog ops Q rest (a.put o.dst (.slice (some ⟨w.heap.size, 0, none⟩) n n)) (w.alloc (.cells (Array.replicate n (.int .u8 0)) 5))) :
    wpList Tryd.prog ops Q (o :: rest) a w := by
  obtain ⟨i0, hi, hz0, hz1, hz2⟩ := info_parts byte_info
  have hr := run_make (P := Tryd.prog) w 24 5 i0 _ Tryd.underlying24 hi hz0 .i64 .i64 (n : Int) (n : Int) (by omega) (Int.le_refl _) (by rw [hz2]; omega) (by omega)
  rw [Int.toNat_natCast, hz1, Nat.mul_one, made_zero] at hr
  refine wpList_plain hgd fun K hK' => ?_
  unfold Oper.wp
  simp [execOp, ho, hl, hc, hr, Result.andThen]
  exact hK' _ _ h

/-- the row of the line's bytes, the first j of them written. -/
def Wrote (W w : World) (g k j : Nat) (v : Int) : Prop := Below g W w ∧ ∀ t, t < k → w.cell? ⟨g, t, none⟩ = some (.int .u8 (if t < j then v else 0)) ∧ w.frozen? ⟨g, t, none⟩ = false
theorem wrote_new (w : World) (k : Nat) (v : Int) : Wrote w (w.alloc (.cells (Array.replicate k (.int .u8 0)) 5)) w.heap.size k 0 v := by
  refine ⟨more (start w) _, fun t ht => ⟨?_, ?_⟩⟩
  · rw [World.cell?_alloc_at _ _ _ _ rfl, if_neg (Nat.not_lt_zero _)]
    simp [ht]
  · simp
theorem Wrote.set {W w : World} {g k j : Nat} {v : Int} (h : Wrote W w g k j v) (hj : j < k) : Wrote W (w.setCell ⟨g, j, none⟩ (.int .u8 v)) g k (j + 1) v := by
  refine ⟨h.1.setCell (Nat.le_refl _) _, fun t ht => ⟨?_, ?_⟩⟩
  · by_cases e : t = j
    · subst e
      rw [World.cell?_setCell_same _ _ _ (h.2 t ht).1, if_pos (Nat.lt_succ_self _)]
    · rw [World.cell?_setCell_other _ _ _ _ (by intro hc; injection hc with _ hc1; exact e hc1.symm), (h.2 t ht).1]
      congr 2
      by_cases h1 : t < j
      · rw [if_pos h1, if_pos (by omega)]
      · rw [if_neg h1, if_neg (by omega)]
  · rw [World.frozen?_setCell]; exact (h.2 t ht).2

theorem wrote_text {W w : World} {g k v : Nat} (h : Wrote W w g k k (v : Int)) (hv : v < 256) :
    (convert 24 9 (.slice (some ⟨g, 0, none⟩) k k)).run Tryd.prog w = .ok (.string (str (List.replicate k (UInt8.ofNat v)))) w := by
  have hl : (List.replicate k (UInt8.ofNat v)).length = k := List.length_replicate
  have := run_convert_bytes_back (P := Tryd.prog) w 24 9 5 ⟨g, 0, none⟩ k (List.replicate k (UInt8.ofNat v)) Tryd.underlying24 Tryd.underlying5 Tryd.underlying9 (fun j hj => by
    rw [hl] at hj
    rw [plus, (h.2 j hj).1, if_pos hj, List.getElem_replicate]
    congr 2
    simp only [UInt8.toNat_ofNat']
    omega)
  rw [hl] at this
  exact this
theorem repl_facts (k v : Nat) (hv : 97 ≤ v ∧ v ≤ 122) : (13 : UInt8) ∉ List.replicate k (UInt8.ofNat v) ∧ (List.replicate k (UInt8.ofNat v)).head? ≠ some 32 := by
  have hn : (UInt8.ofNat v).toNat = v := by simp only [UInt8.toNat_ofNat']; omega
  constructor
  · intro h
    have := List.eq_of_mem_replicate h
    rw [← this] at hn
    have e : (13 : UInt8).toNat = 13 := rfl
    omega
  · intro h
    have := List.eq_of_mem_replicate (List.mem_of_mem_head? h)
    rw [← this] at hn
    have e : (32 : UInt8).toNat = 32 := rfl
    omega

end Go.Proofs.YtojhajlhbhkddaaDoor

/- SpansRules: what is used of the plain facts. Written by recipes/rules3.py. -/
import Derived.Test.YtkjkegjekfebpaaSnCopies
import Derived.Test.YtkjkegjekfebpaaSnMathB
namespace Go.Proofs.Ytkjkegjekfebpaa
open Go.RowKit Spn

theorem rules_keep {w W W1 : World} {gt gw : Nat} {x1 y1 x2 y2 : Int} {l T : List Sp} (hb : Below W.heap.size W W1) (h : SetAt W gt T ∧ SetAt W gw (canon l) ∧ W.cell? ⟨w.heap.size, 0, none⟩ = some (.int .i64 x1) ∧ W.cell? ⟨w.heap.size, 1, none⟩ = some (.int .i64 y1) ∧ W.cell? ⟨w.heap.size + 1, 0, none⟩ = some (.int .i64 x2) ∧ W.cell? ⟨w.heap.size + 1, 1, none⟩ = some (.int .i64 y2) ∧ Below w.heap.size w W) : SetAt W1 gt T ∧ SetAt W1 gw (canon l) ∧ W1.cell? ⟨w.heap.size, 0, none⟩ = some (.int .i64 x1) ∧ W1.cell? ⟨w.heap.size, 1, none⟩ = some (.int .i64 y1) ∧ W1.cell? ⟨w.heap.size + 1, 0, none⟩ = some (.int .i64 x2) ∧ W1.cell? ⟨w.heap.size + 1, 1, none⟩ = some (.int .i64 y2) ∧ Below w.heap.size w W1 :=
  ⟨h.1.keep hb, h.2.1.keep hb, cell_keep hb h.2.2.1, cell_keep hb h.2.2.2.1, cell_keep hb h.2.2.2.2.1, cell_keep hb h.2.2.2.2.2.1, andthen h.2.2.2.2.2.2 hb⟩
theorem rules_keep2 {w W W1 : World} {gt gw X : Nat} {x1 y1 x2 y2 m m1 : Int} {l T : List Sp} (hb : Below W.heap.size W W1) (h : SetAt W gt T ∧ SetAt W gw (canon l) ∧ W.cell? ⟨w.heap.size, 0, none⟩ = some (.int .i64 x1) ∧ W.cell? ⟨w.heap.size, 1, none⟩ = some (.int .i64 y1) ∧ W.cell? ⟨w.heap.size + 1, 0, none⟩ = some (.int .i64 x2) ∧ W.cell? ⟨w.heap.size + 1, 1, none⟩ = some (.int .i64 y2) ∧ W.cell? ⟨X, 0, none⟩ = some (.int .i64 m) ∧ W.cell? ⟨X, 1, none⟩ = some (.int .i64 m1) ∧ Below w.heap.size w W) : SetAt W1 gt T ∧ SetAt W1 gw (canon l) ∧ W1.cell? ⟨w.heap.size, 0, none⟩ = some (.int .i64 x1) ∧ W1.cell? ⟨w.heap.size, 1, none⟩ = some (.int .i64 y1) ∧ W1.cell? ⟨w.heap.size + 1, 0, none⟩ = some (.int .i64 x2) ∧ W1.cell? ⟨w.heap.size + 1, 1, none⟩ = some (.int .i64 y2) ∧ W1.cell? ⟨X, 0, none⟩ = some (.int .i64 m) ∧ W1.cell? ⟨X, 1, none⟩ = some (.int .i64 m1) ∧ Below w.heap.size w W1 :=
  ⟨h.1.keep hb, h.2.1.keep hb, cell_keep hb h.2.2.1, cell_keep hb h.2.2.2.1, cell_keep hb h.2.2.2.2.1, cell_keep hb h.2.2.2.2.2.1, cell_keep hb h.2.2.2.2.2.2.1, cell_keep hb h.2.2.2.2.2.2.2.1, andthen h.2.2.2.2.2.2.2.2 hb⟩
theorem one_box {w W W3 : World} {gt gw : Nat} {x1 y1 x2 y2 m m1 : Int} {l T : List Sp} (h : W.alloc (.cells #[.int .i64 m, .int .i64 m1] 25) = W3) (ht : SetAt W gt T) (hw : SetAt W gw (canon l))
    (a0 : W.cell? ⟨w.heap.size, 0, none⟩ = some (.int .i64 x1)) (a1 : W.cell? ⟨w.heap.size, 1, none⟩ = some (.int .i64 y1)) (b0 : W.cell? ⟨w.heap.size + 1, 0, none⟩ = some (.int .i64 x2)) (b1 : W.cell? ⟨w.heap.size + 1, 1, none⟩ = some (.int .i64 y2)) (hb : Below w.heap.size w W) :
    ∃ X, W.heap.size = X ∧ X ≠ gt ∧ X ≠ gw ∧ (SetAt W3 gt T ∧ SetAt W3 gw (canon l) ∧ W3.cell? ⟨w.heap.size, 0, none⟩ = some (.int .i64 x1) ∧ W3.cell? ⟨w.heap.size, 1, none⟩ = some (.int .i64 y1) ∧ W3.cell? ⟨w.heap.size + 1, 0, none⟩ = some (.int .i64 x2) ∧ W3.cell? ⟨w.heap.size + 1, 1, none⟩ = some (.int .i64 y2) ∧ W3.cell? ⟨X, 0, none⟩ = some (.int .i64 m) ∧ W3.cell? ⟨X, 1, none⟩ = some (.int .i64 m1) ∧ Below w.heap.size w W3) := by
  subst h
  have hb' := more (start W) (.cells #[.int .i64 m, .int .i64 m1] 25)
  have h1 := ht.lt
  have h2 := hw.lt
  exact ⟨_, rfl, by omega, by omega, ht.keep hb', hw.keep hb', cell_keep hb' a0, cell_keep hb' a1, cell_keep hb' b0, cell_keep hb' b1, by rw [World.cell?_alloc_at _ _ _ _ rfl]; rfl, by rw [World.cell?_alloc_at _ _ _ _ rfl]; rfl, andthen hb hb'⟩
/-- what the law rests upon. -/
structure Facts (l : List Sp) (x1 y1 x2 y2 m m1 n lk la sl sp : Int) (b0 b1 : Bool) : Prop where
  hh1 : hasB (addR (canon l) (x1, y1)) (x1, y1) = true
  ht1 : sumL (addR (canon l) (x1, y1)) = n + lk
  hlb : long (x2, y2) = sl + sp
  hm1 : meetsB (addR (canon l) (x1, y1)) (m, m1) = (b0 || b1)
  hml : meetsB (canon l) (m, m1) = b0
  hin : inB (x1, y1) m = b1
  hm2 : meetsB (subR (addR (canon l) (x1, y1)) (x1, y1)) (x1, y1) = false
  ht2 : sumL (subR (addR (canon l) (x1, y1)) (x1, y1)) = n + lk - la
  hm3 : meetsB (subR (addR (canon l) (x1, y1)) (x1, y1)) (m, m1) = (b0 && !b1)
  q1 : IntKind.i64.wrap (n + lk) = n + lk
  q2 : IntKind.i64.wrap (n + lk - la) = n + lk - la
  q3 : IntKind.i64.wrap (sl + sp) = sl + sp
theorem meets_one (l : List Sp) (m m1 : Int) (h1 : Ok (m, m1) → m1 = m + 1) (h2 : 0 ≤ m → m < 52596000 → m1 = m + 1) : meetsB l (m, m1) = inL l m := by
  rw [Bool.eq_iff_iff]
  unfold meetsB
  rw [decide_eq_true_eq, meets_min, inL_has]
  constructor
  · rintro ⟨q, hq, ok, g1, g2⟩
    have := h1 ok
    simp only at g1 g2
    obtain rfl : q = m := by omega
    exact hq
  · intro hm
    obtain ⟨b, hb, ok, g1, g2⟩ := id hm
    have o := ok
    unfold Ok at o
    have := h2 (by omega) (by omega)
    exact ⟨m, hm, by unfold Ok; simp only; omega, Int.le_refl _, by simp only; omega⟩
theorem inL_flat (l : List Sp) (a : Sp) (m : Int) : inL (subR l a) m = (inL l m && !inB a m) := by
  rw [Bool.eq_iff_iff, inL_has, has_flat, Bool.and_eq_true, inL_has, Bool.not_eq_true', ← Bool.not_eq_true, in_ok]
theorem inL_add (l : List Sp) (a : Sp) (m : Int) (h : Neat l) : inL (addR l a) m = (inL l m || inB a m) := by
  rw [Bool.eq_iff_iff, inL_has, (addR_neat l a h).2 m, Bool.or_eq_true, inL_has, has_one, in_ok]
theorem facts (l : List Sp) (x1 y1 x2 y2 m m1 : Int) (hl : l.length ≤ 30) (h1 : Ok (m, m1) → m1 = m + 1) (h2 : 0 ≤ m → m < 52596000 → m1 = m + 1) :
    Facts l x1 y1 x2 y2 m m1 (sumL (canon l)) (sumL (lackR (canon l) (x1, y1))) (long (x1, y1)) (sumL (lackR (addR (canon l) (x1, y1)) (x2, y2))) (sumL (partR (addR (canon l) (x1, y1)) (x2, y2))) (inL (canon l) m) (inB (x1, y1) m) := by
  have hn := (canon_neat l).1
  have hn1 := (addR_neat (canon l) (x1, y1) hn)
  have e0 := canon_len l
  have e1 := addR_len (canon l) (x1, y1)
  have e2 := lackR_len (canon l) (x1, y1)
  have e3 := lackR_len (addR (canon l) (x1, y1)) (x2, y2)
  have e4 := partR_len (addR (canon l) (x1, y1)) (x2, y2)
  have s0 := sumL_bd (canon l)
  have s1 := sumL_bd (lackR (canon l) (x1, y1))
  have s2 := sumL_bd (lackR (addR (canon l) (x1, y1)) (x2, y2))
  have s3 := sumL_bd (partR (addR (canon l) (x1, y1)) (x2, y2))
  have s4 := long_bd (x1, y1)
  refine ⟨?_, sum_addR _ _ hn, (sum_parts _ _ hn1.1).symm, ?_, meets_one _ _ _ h1 h2, rfl, ?_, ?_, ?_, IntWalk.i64_in _ (by omega), IntWalk.i64_in _ (by omega), IntWalk.i64_in _ (by omega)⟩
  · unfold hasB
    apply decide_eq_true
    rw [lacks_min]
    intro q hq
    exact (hn1.2 q).2 (Or.inr ((has_one _ q).2 hq))
  · rw [meets_one _ _ _ h1 h2, inL_add _ _ _ hn]
  · unfold meetsB
    apply decide_eq_false
    rw [meets_min]
    rintro ⟨q, hq, hi⟩
    exact ((has_flat _ _ q).1 hq).2 hi
  · rw [sum_cut _ _ hn, sum_addR _ _ hn]
  · rw [meets_one _ _ _ h1 h2, inL_flat, inL_add _ _ _ hn]
    cases inL (canon l) m <;> cases inB (x1, y1) m <;> rfl
end Go.Proofs.Ytkjkegjekfebpaa

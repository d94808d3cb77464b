/- RuleLists walked: lists that are too long, that don't rise, that have two alike. -/
import Derived.Test.YtigbfmlpbobpfaaRuX
namespace Go.Proofs.Ytigbfmlpbobpfaa
open Go.RowKit Rul Go.Sort

def pre0 (j : Nat) : List Int := (List.range j).map fun (i : Nat) => (i : Int) + 1
def pre1 (j : Nat) : List Wd := (List.range j).map fun (i : Nat) => ((i : Int) / 7 - 1, (i : Int) % 7)
def pre2 (j : Nat) : List Int := (List.range j).map fun (i : Nat) => -(i : Int) - 1
def pre3 (j : Nat) : List Int := (List.range j).map fun (_ : Nat) => 3
theorem fin12 (j : Nat) : (decide (j ≤ 12) == decide ((j : Int) ≤ 12)) = true := by
  by_cases h : j ≤ 12
  · rw [decide_eq_true h, decide_eq_true (by omega)]; rfl
  · rw [decide_eq_false h, decide_eq_false (by omega)]; rfl
theorem fin1 (j : Nat) : (decide (j = 1) == ((j : Int) == 1)) = true := by
  by_cases h : j = 1
  · subst h; rfl
  · rw [decide_eq_false h, beq_eq_false_iff_ne.2 (show (j : Int) ≠ 1 by omega)]; rfl
theorem pre0_succ (j : Nat) : pre0 (j + 1) = pre0 j ++ [(j : Int) + 1] := by simp [pre0, List.range_succ]
theorem pre1_succ (j : Nat) : pre1 (j + 1) = pre1 j ++ [((j : Int) / 7 - 1, (j : Int) % 7)] := by simp [pre1, List.range_succ]
theorem pre2_succ (j : Nat) : pre2 (j + 1) = pre2 j ++ [-(j : Int) - 1] := by simp [pre2, List.range_succ]
theorem pre3_succ (j : Nat) : pre3 (j + 1) = pre3 j ++ [3] := by simp [pre3, List.range_succ]
theorem pre0_len (j : Nat) : (pre0 j).length = j := by simp [pre0]
theorem pre1_len (j : Nat) : (pre1 j).length = j := by simp [pre1]
theorem pre2_len (j : Nat) : (pre2 j).length = j := by simp [pre2]
theorem pre3_len (j : Nat) : (pre3 j).length = j := by simp [pre3]
theorem all0 : ∀ k : Fin 16, k.val ≠ 0 → isB ⟨3, 1, 0, -1, [], pre0 k.val, []⟩ = decide (k.val ≤ 12) := by decide +kernel
theorem all1 : ∀ k : Fin 16, k.val ≠ 0 → isB ⟨3, 1, 0, -1, pre1 k.val, [], []⟩ = decide (k.val ≤ 12) := by decide +kernel
theorem all2 : ∀ k : Fin 16, k.val ≠ 0 → isB ⟨3, 1, 0, -1, [], pre2 k.val, []⟩ = decide (k.val = 1) := by decide +kernel
theorem all3 : ∀ k : Fin 16, k.val ≠ 0 → isB ⟨3, 1, 0, -1, [], [], pre3 k.val⟩ = decide (k.val = 1) := by decide +kernel
/-- a rule in a block of its own: three numbers as they are, three lists. -/
structure Bx (W : World) (X : Nat) (v4 v5 v6 : Value) : Prop where
  c0 : W.cell? ⟨X, 0, none⟩ = some (.int .i64 3)
  c1 : W.cell? ⟨X, 1, none⟩ = some (.int .i64 1)
  c2 : W.cell? ⟨X, 2, none⟩ = some (.int .i64 0)
  c3 : W.cell? ⟨X, 3, none⟩ = some (.int .i64 (-1))
  c4 : W.cell? ⟨X, 4, none⟩ = some v4
  c5 : W.cell? ⟨X, 5, none⟩ = some v5
  c6 : W.cell? ⟨X, 6, none⟩ = some v6
  f : ∀ i, W.frozen? ⟨X, i, none⟩ = false
  lt : X < W.heap.size
theorem Bx.keep {W W1 : World} {X B : Nat} {v4 v5 v6 : Value} (h : Bx W X v4 v5 v6) (hb : Below B W W1) (hX : X < B) : Bx W1 X v4 v5 v6 :=
  ⟨(hb.cell (p := ⟨X, 0, none⟩) hX).trans h.c0, (hb.cell (p := ⟨X, 1, none⟩) hX).trans h.c1, (hb.cell (p := ⟨X, 2, none⟩) hX).trans h.c2, (hb.cell (p := ⟨X, 3, none⟩) hX).trans h.c3,
    (hb.cell (p := ⟨X, 4, none⟩) hX).trans h.c4, (hb.cell (p := ⟨X, 5, none⟩) hX).trans h.c5, (hb.cell (p := ⟨X, 6, none⟩) hX).trans h.c6, fun i => (hb.frozen (p := ⟨X, i, none⟩) hX).trans (h.f i), Nat.lt_of_lt_of_le h.lt hb.size⟩
theorem cell_set_ne {W : World} {X i j : Nat} {v u : Value} (hn : i ≠ j) (h : W.cell? ⟨X, i, none⟩ = some v) : (W.setCell ⟨X, j, none⟩ u).cell? ⟨X, i, none⟩ = some v :=
  (World.cell?_setCell_other _ _ _ _ (by intro hc; injection hc with _ hc1; omega)).trans h
theorem Bx.set4 {W : World} {X : Nat} {v4 v5 v6 : Value} (u : Value) (h : Bx W X v4 v5 v6) : Bx (W.setCell ⟨X, 4, none⟩ u) X u v5 v6 :=
  ⟨cell_set_ne (by omega) h.c0, cell_set_ne (by omega) h.c1, cell_set_ne (by omega) h.c2, cell_set_ne (by omega) h.c3, World.cell?_setCell_same _ _ _ h.c4, cell_set_ne (by omega) h.c5, cell_set_ne (by omega) h.c6, fun i => by rw [World.frozen?_setCell]; exact h.f i, by rw [World.size_setCell]; exact h.lt⟩
theorem Bx.set5 {W : World} {X : Nat} {v4 v5 v6 : Value} (u : Value) (h : Bx W X v4 v5 v6) : Bx (W.setCell ⟨X, 5, none⟩ u) X v4 u v6 :=
  ⟨cell_set_ne (by omega) h.c0, cell_set_ne (by omega) h.c1, cell_set_ne (by omega) h.c2, cell_set_ne (by omega) h.c3, cell_set_ne (by omega) h.c4, World.cell?_setCell_same _ _ _ h.c5, cell_set_ne (by omega) h.c6, fun i => by rw [World.frozen?_setCell]; exact h.f i, by rw [World.size_setCell]; exact h.lt⟩
theorem Bx.set6 {W : World} {X : Nat} {v4 v5 v6 : Value} (u : Value) (h : Bx W X v4 v5 v6) : Bx (W.setCell ⟨X, 6, none⟩ u) X v4 v5 u :=
  ⟨cell_set_ne (by omega) h.c0, cell_set_ne (by omega) h.c1, cell_set_ne (by omega) h.c2, cell_set_ne (by omega) h.c3, cell_set_ne (by omega) h.c4, cell_set_ne (by omega) h.c5, World.cell?_setCell_same _ _ _ h.c6, fun i => by rw [World.frozen?_setCell]; exact h.f i, by rw [World.size_setCell]; exact h.lt⟩
theorem bx_new (w : World) (v4 v5 v6 : Value) (t : TypeId) : Bx (w.alloc (.cells #[.int .i64 3, .int .i64 1, .int .i64 0, .int .i64 (-1), v4, v5, v6] t)) w.heap.size v4 v5 v6 := by
  refine ⟨?_, ?_, ?_, ?_, ?_, ?_, ?_, fun i => World.frozen?_alloc_at _ _ _ _ rfl, by simp⟩
  all_goals (rw [World.cell?_alloc_at _ _ _ _ rfl]; rfl)

set_option maxRecDepth 100000 in
set_option maxHeartbeats 2000000 in
theorem lists_0 (n x : Int) (k : Nat) (w : World) (n1 : 0 ≤ n) (n2 : n ≤ 255) (x1 : 0 ≤ x) (x2 : x ≤ 255) (hk : n % 15 + 1 = (k : Int)) (hq : x % 4 = 0) :
    Calls Try.prog 7 #[.int .u8 n, .int .u8 x] w (Ans w (.bool true)) := by
  have hk1 : 1 ≤ k := by omega
  have hk2 : k ≤ 15 := by omega
  have HI := hide (show isB ⟨3, 1, 0, -1, [], pre0 k, []⟩ = decide (k ≤ 12) from all0 ⟨k, by omega⟩ (by show k ≠ 0; omega))
  have HK := hide hk
  have HQ := hide hq
  clear hk hq
  go_enter Try.func7, Try.ntmps7
  go_wp2_with fail
  refine (known_any _).mono ?_
  rintro e w1 ⟨rfl, hb1⟩
  have HBX := hide hb1
  clear hb1
  have q0 : (x % 4 == 0) = true := by rw [HQ.out]; rfl
  have q1 : (x % 4 == 1) = false := by rw [HQ.out]; rfl
  have q2 : (x % 4 == 2) = false := by rw [HQ.out]; rfl
  go_wp2_with fail
  rw [HK.out]
  have HX := hide (bx_new w1 (.slice none 0 0) (.slice none 0 0) (.slice none 0 0) 25)
  have HBW := hide (more HBX.out (.cells #[.int .i64 3, .int .i64 1, .int .i64 0, .int .i64 (-1), .slice none 0 0, .slice none 0 0, .slice none 0 0] 25))
  have hXw : w.heap.size ≤ w1.heap.size := HBX.out.size
  have hXs : (w1.alloc (.cells #[.int .i64 3, .int .i64 1, .int .i64 0, .int .i64 (-1), .slice none 0 0, .slice none 0 0, .slice none 0 0] 25)).heap.size = w1.heap.size + 1 := by simp
  generalize w1.alloc (.cells #[.int .i64 3, .int .i64 1, .int .i64 0, .int .i64 (-1), .slice none 0 0, .slice none 0 0, .slice none 0 0] 25) = W at *
  generalize w1.heap.size = X at *
  clear HBX q0 q1 q2
  go_loopw [8] (fun i wr => ∃ (j : Nat) (v : Value), j ≤ k ∧ i = .int .i64 j ∧ OwnI wr (X + 1) v (pre0 j) ∧ Bx wr X (.slice none 0 0) (v) (.slice none 0 0) ∧ Below w.heap.size w wr) (fun i _ => k - (intOf i).toNat)
  case atStart => exact ⟨0, _, Nat.zero_le _, rfl, ownI_nil _ _, HX.out, HBW.out⟩
  case round =>
    obtain ⟨j, v, hj, rfl, hown, hbx, hbw⟩ := hrel
    obtain ⟨D, cap, rfl, hrow⟩ := OwnI.row hown
    rw [pre0_len] at hown hbx
    by_cases hlt : j < k
    · have hlt' : (j : Int) < (k : Int) := by omega
      have e5 := hbx.c5
      have HBB := hide hbx
      have HWW := hide hbw
      have hsz := hbx.lt
      clear hbx hbw hrow
      have hown1 : OwnI wr (X + 1) (.slice D j cap) (pre0 j) := hown
      have hXB : X + 1 ≤ wr.heap.size := hsz
      have hl := pre0_len j
      rw [← hl] at hj hlt
      rw [hl] at hj hlt
      have hl1 : (pre0 j).length ≤ 1000000 := by rw [hl]; omega
      clear hl hown
      go_wp2_with (at_builtin; refine wp_oneI (l := pre0 j) (p := (j : Int) + 1) rfl _ _ rfl rfl rfl rfl hown1 hXB hl1 ?_; intro v' w' hown' hb'; obtain ⟨D2, cap2, hv', _⟩ := OwnI.row hown'; rw [← pre0_succ, pre0_len] at hv'; subst hv'; have HB2 := hide (HBB.out.keep hb' (Nat.lt_succ_self X)); have k5 := HB2.out.c5; have kf := HB2.out.f 5; have HN := hide hown'; have HB3 := hide (HWW.out.trans (hb'.mono (show w.heap.size ≤ X + 1 from Nat.le_succ_of_le hXw))); clear hown' hb' hown1)
      go_roundw
      case rel => exact ⟨j + 1, _, by omega, by go_num, by rw [pre0_succ]; exact ownsRow_setCell_below HN.out (a := ⟨X, 5, none⟩) (Nat.lt_succ_self X) _, HB2.out.set5 _, HB3.out.setCell (show w.heap.size ≤ X from hXw) _⟩
      case measure => simp [intOf]; omega
    · obtain rfl : j = k := by omega
      have HL := hide (show Lies wr none 0 D j none 0 [] (pre0 j) [] from ⟨RowD.nil _ _, rfl, by simp, hrow, (pre0_len j).symm, by rw [pre0_len]; omega, RowI.nil _ _, rfl, by simp⟩)
      obtain ⟨c0, c1, c2, c3, c4, c5, c6, _, _⟩ := hbx
      have HWW := hide hbw
      clear hbw hrow hown
      go_wp2_with fail
      refine (ans_is (is_any 3 1 0 (-1) none D none 0 0 j cap 0 0 [] (pre0 j) [] _ HL.out) HI.out).mono ?_
      rintro e w2 ⟨rfl, hb2⟩
      have HE := hide (andthen HWW.out hb2)
      clear hb2 c0 c1 c2 c3 c4 c5 c6
      go_wp2_with fail
      go_ret
      exact ⟨ret_bool (fin12 j), HE.out⟩

set_option maxRecDepth 100000 in
set_option maxHeartbeats 2000000 in
theorem lists_1 (n x : Int) (k : Nat) (w : World) (n1 : 0 ≤ n) (n2 : n ≤ 255) (x1 : 0 ≤ x) (x2 : x ≤ 255) (hk : n % 15 + 1 = (k : Int)) (hq : x % 4 = 1) :
    Calls Try.prog 7 #[.int .u8 n, .int .u8 x] w (Ans w (.bool true)) := by
  have hk1 : 1 ≤ k := by omega
  have hk2 : k ≤ 15 := by omega
  have HI := hide (show isB ⟨3, 1, 0, -1, pre1 k, [], []⟩ = decide (k ≤ 12) from all1 ⟨k, by omega⟩ (by show k ≠ 0; omega))
  have HK := hide hk
  have HQ := hide hq
  clear hk hq
  go_enter Try.func7, Try.ntmps7
  go_wp2_with fail
  refine (known_any _).mono ?_
  rintro e w1 ⟨rfl, hb1⟩
  have HBX := hide hb1
  clear hb1
  have q0 : (x % 4 == 0) = false := by rw [HQ.out]; rfl
  have q1 : (x % 4 == 1) = true := by rw [HQ.out]; rfl
  have q2 : (x % 4 == 2) = false := by rw [HQ.out]; rfl
  go_wp2_with fail
  rw [HK.out]
  have HX := hide (bx_new w1 (.slice none 0 0) (.slice none 0 0) (.slice none 0 0) 25)
  have HBW := hide (more HBX.out (.cells #[.int .i64 3, .int .i64 1, .int .i64 0, .int .i64 (-1), .slice none 0 0, .slice none 0 0, .slice none 0 0] 25))
  have hXw : w.heap.size ≤ w1.heap.size := HBX.out.size
  have hXs : (w1.alloc (.cells #[.int .i64 3, .int .i64 1, .int .i64 0, .int .i64 (-1), .slice none 0 0, .slice none 0 0, .slice none 0 0] 25)).heap.size = w1.heap.size + 1 := by simp
  generalize w1.alloc (.cells #[.int .i64 3, .int .i64 1, .int .i64 0, .int .i64 (-1), .slice none 0 0, .slice none 0 0, .slice none 0 0] 25) = W at *
  generalize w1.heap.size = X at *
  clear HBX q0 q1 q2
  go_loopw [9] (fun i wr => ∃ (j : Nat) (v : Value), j ≤ k ∧ i = .int .i64 j ∧ OwnD wr (X + 1) v (pre1 j) ∧ Bx wr X (v) (.slice none 0 0) (.slice none 0 0) ∧ Below w.heap.size w wr) (fun i _ => k - (intOf i).toNat)
  case atStart => exact ⟨0, _, Nat.zero_le _, rfl, ownD_nil _ _, HX.out, HBW.out⟩
  case round =>
    obtain ⟨j, v, hj, rfl, hown, hbx, hbw⟩ := hrel
    obtain ⟨D, cap, rfl, hrow⟩ := OwnD.row hown
    rw [pre1_len] at hown hbx
    by_cases hlt : j < k
    · have hlt' : (j : Int) < (k : Int) := by omega
      have e4 := hbx.c4
      have HBB := hide hbx
      have HWW := hide hbw
      have hsz := hbx.lt
      clear hbx hbw hrow
      have hown1 : OwnD wr (X + 1) (.slice D j cap) (pre1 j) := hown
      have hXB : X + 1 ≤ wr.heap.size := hsz
      have hl := pre1_len j
      rw [← hl] at hj hlt
      rw [hl] at hj hlt
      have hl1 : (pre1 j).length ≤ 1000000 := by rw [hl]; omega
      clear hl hown
      go_wp2_with (at_builtin; refine wp_oneD (l := pre1 j) (p := ((j : Int) / 7 - 1, (j : Int) % 7)) rfl _ _ rfl rfl rfl rfl hown1 hXB hl1 ?_; intro v' w' hown' hb'; obtain ⟨D2, cap2, hv', _⟩ := OwnD.row hown'; rw [← pre1_succ, pre1_len] at hv'; subst hv'; have HB2 := hide (HBB.out.keep hb' (Nat.lt_succ_self X)); have k4 := HB2.out.c4; have kf := HB2.out.f 4; have HN := hide hown'; have HB3 := hide (HWW.out.trans (hb'.mono (show w.heap.size ≤ X + 1 from Nat.le_succ_of_le hXw))); clear hown' hb' hown1)
      go_roundw
      case rel => exact ⟨j + 1, _, by omega, by go_num, by rw [pre1_succ]; exact ownsRow_setCell_below HN.out (a := ⟨X, 4, none⟩) (Nat.lt_succ_self X) _, HB2.out.set4 _, HB3.out.setCell (show w.heap.size ≤ X from hXw) _⟩
      case measure => simp [intOf]; omega
    · obtain rfl : j = k := by omega
      have HL := hide (show Lies wr D j none 0 none 0 (pre1 j) [] [] from ⟨hrow, (pre1_len j).symm, by rw [pre1_len]; omega, RowI.nil _ _, rfl, by simp, RowI.nil _ _, rfl, by simp⟩)
      obtain ⟨c0, c1, c2, c3, c4, c5, c6, _, _⟩ := hbx
      have HWW := hide hbw
      clear hbw hrow hown
      go_wp2_with fail
      refine (ans_is (is_any 3 1 0 (-1) D none none j cap 0 0 0 0 (pre1 j) [] [] _ HL.out) HI.out).mono ?_
      rintro e w2 ⟨rfl, hb2⟩
      have HE := hide (andthen HWW.out hb2)
      clear hb2 c0 c1 c2 c3 c4 c5 c6
      go_wp2_with fail
      go_ret
      exact ⟨ret_bool (fin12 j), HE.out⟩

set_option maxRecDepth 100000 in
set_option maxHeartbeats 2000000 in
theorem lists_2 (n x : Int) (k : Nat) (w : World) (n1 : 0 ≤ n) (n2 : n ≤ 255) (x1 : 0 ≤ x) (x2 : x ≤ 255) (hk : n % 15 + 1 = (k : Int)) (hq : x % 4 = 2) :
    Calls Try.prog 7 #[.int .u8 n, .int .u8 x] w (Ans w (.bool true)) := by
  have hk1 : 1 ≤ k := by omega
  have hk2 : k ≤ 15 := by omega
  have HI := hide (show isB ⟨3, 1, 0, -1, [], pre2 k, []⟩ = decide (k = 1) from all2 ⟨k, by omega⟩ (by show k ≠ 0; omega))
  have HK := hide hk
  have HQ := hide hq
  clear hk hq
  go_enter Try.func7, Try.ntmps7
  go_wp2_with fail
  refine (known_any _).mono ?_
  rintro e w1 ⟨rfl, hb1⟩
  have HBX := hide hb1
  clear hb1
  have q0 : (x % 4 == 0) = false := by rw [HQ.out]; rfl
  have q1 : (x % 4 == 1) = false := by rw [HQ.out]; rfl
  have q2 : (x % 4 == 2) = true := by rw [HQ.out]; rfl
  go_wp2_with fail
  rw [HK.out]
  have HX := hide (bx_new w1 (.slice none 0 0) (.slice none 0 0) (.slice none 0 0) 25)
  have HBW := hide (more HBX.out (.cells #[.int .i64 3, .int .i64 1, .int .i64 0, .int .i64 (-1), .slice none 0 0, .slice none 0 0, .slice none 0 0] 25))
  have hXw : w.heap.size ≤ w1.heap.size := HBX.out.size
  have hXs : (w1.alloc (.cells #[.int .i64 3, .int .i64 1, .int .i64 0, .int .i64 (-1), .slice none 0 0, .slice none 0 0, .slice none 0 0] 25)).heap.size = w1.heap.size + 1 := by simp
  generalize w1.alloc (.cells #[.int .i64 3, .int .i64 1, .int .i64 0, .int .i64 (-1), .slice none 0 0, .slice none 0 0, .slice none 0 0] 25) = W at *
  generalize w1.heap.size = X at *
  clear HBX q0 q1 q2
  go_loopw [10] (fun i wr => ∃ (j : Nat) (v : Value), j ≤ k ∧ i = .int .i64 j ∧ OwnI wr (X + 1) v (pre2 j) ∧ Bx wr X (.slice none 0 0) (v) (.slice none 0 0) ∧ Below w.heap.size w wr) (fun i _ => k - (intOf i).toNat)
  case atStart => exact ⟨0, _, Nat.zero_le _, rfl, ownI_nil _ _, HX.out, HBW.out⟩
  case round =>
    obtain ⟨j, v, hj, rfl, hown, hbx, hbw⟩ := hrel
    obtain ⟨D, cap, rfl, hrow⟩ := OwnI.row hown
    rw [pre2_len] at hown hbx
    by_cases hlt : j < k
    · have hlt' : (j : Int) < (k : Int) := by omega
      have e5 := hbx.c5
      have HBB := hide hbx
      have HWW := hide hbw
      have hsz := hbx.lt
      clear hbx hbw hrow
      have hown1 : OwnI wr (X + 1) (.slice D j cap) (pre2 j) := hown
      have hXB : X + 1 ≤ wr.heap.size := hsz
      have hl := pre2_len j
      rw [← hl] at hj hlt
      rw [hl] at hj hlt
      have hl1 : (pre2 j).length ≤ 1000000 := by rw [hl]; omega
      clear hl hown
      go_wp2_with (at_builtin; refine wp_oneI (l := pre2 j) (p := -(j : Int) - 1) rfl _ _ rfl rfl rfl rfl hown1 hXB hl1 ?_; intro v' w' hown' hb'; obtain ⟨D2, cap2, hv', _⟩ := OwnI.row hown'; rw [← pre2_succ, pre2_len] at hv'; subst hv'; have HB2 := hide (HBB.out.keep hb' (Nat.lt_succ_self X)); have k5 := HB2.out.c5; have kf := HB2.out.f 5; have HN := hide hown'; have HB3 := hide (HWW.out.trans (hb'.mono (show w.heap.size ≤ X + 1 from Nat.le_succ_of_le hXw))); clear hown' hb' hown1)
      go_roundw
      case rel => exact ⟨j + 1, _, by omega, by go_num, by rw [pre2_succ]; exact ownsRow_setCell_below HN.out (a := ⟨X, 5, none⟩) (Nat.lt_succ_self X) _, HB2.out.set5 _, HB3.out.setCell (show w.heap.size ≤ X from hXw) _⟩
      case measure => simp [intOf]; omega
    · obtain rfl : j = k := by omega
      have HL := hide (show Lies wr none 0 D j none 0 [] (pre2 j) [] from ⟨RowD.nil _ _, rfl, by simp, hrow, (pre2_len j).symm, by rw [pre2_len]; omega, RowI.nil _ _, rfl, by simp⟩)
      obtain ⟨c0, c1, c2, c3, c4, c5, c6, _, _⟩ := hbx
      have HWW := hide hbw
      clear hbw hrow hown
      go_wp2_with fail
      refine (ans_is (is_any 3 1 0 (-1) none D none 0 0 j cap 0 0 [] (pre2 j) [] _ HL.out) HI.out).mono ?_
      rintro e w2 ⟨rfl, hb2⟩
      have HE := hide (andthen HWW.out hb2)
      clear hb2 c0 c1 c2 c3 c4 c5 c6
      go_wp2_with fail
      go_ret
      exact ⟨ret_bool (fin1 j), HE.out⟩

set_option maxRecDepth 100000 in
set_option maxHeartbeats 2000000 in
theorem lists_3 (n x : Int) (k : Nat) (w : World) (n1 : 0 ≤ n) (n2 : n ≤ 255) (x1 : 0 ≤ x) (x2 : x ≤ 255) (hk : n % 15 + 1 = (k : Int)) (hq : x % 4 = 3) :
    Calls Try.prog 7 #[.int .u8 n, .int .u8 x] w (Ans w (.bool true)) := by
  have hk1 : 1 ≤ k := by omega
  have hk2 : k ≤ 15 := by omega
  have HI := hide (show isB ⟨3, 1, 0, -1, [], [], pre3 k⟩ = decide (k = 1) from all3 ⟨k, by omega⟩ (by show k ≠ 0; omega))
  have HK := hide hk
  have HQ := hide hq
  clear hk hq
  go_enter Try.func7, Try.ntmps7
  go_wp2_with fail
  refine (known_any _).mono ?_
  rintro e w1 ⟨rfl, hb1⟩
  have HBX := hide hb1
  clear hb1
  have q0 : (x % 4 == 0) = false := by rw [HQ.out]; rfl
  have q1 : (x % 4 == 1) = false := by rw [HQ.out]; rfl
  have q2 : (x % 4 == 2) = false := by rw [HQ.out]; rfl
  go_wp2_with fail
  rw [HK.out]
  have HX := hide (bx_new w1 (.slice none 0 0) (.slice none 0 0) (.slice none 0 0) 25)
  have HBW := hide (more HBX.out (.cells #[.int .i64 3, .int .i64 1, .int .i64 0, .int .i64 (-1), .slice none 0 0, .slice none 0 0, .slice none 0 0] 25))
  have hXw : w.heap.size ≤ w1.heap.size := HBX.out.size
  have hXs : (w1.alloc (.cells #[.int .i64 3, .int .i64 1, .int .i64 0, .int .i64 (-1), .slice none 0 0, .slice none 0 0, .slice none 0 0] 25)).heap.size = w1.heap.size + 1 := by simp
  generalize w1.alloc (.cells #[.int .i64 3, .int .i64 1, .int .i64 0, .int .i64 (-1), .slice none 0 0, .slice none 0 0, .slice none 0 0] 25) = W at *
  generalize w1.heap.size = X at *
  clear HBX q0 q1 q2
  go_loopw [11] (fun i wr => ∃ (j : Nat) (v : Value), j ≤ k ∧ i = .int .i64 j ∧ OwnI wr (X + 1) v (pre3 j) ∧ Bx wr X (.slice none 0 0) (.slice none 0 0) (v) ∧ Below w.heap.size w wr) (fun i _ => k - (intOf i).toNat)
  case atStart => exact ⟨0, _, Nat.zero_le _, rfl, ownI_nil _ _, HX.out, HBW.out⟩
  case round =>
    obtain ⟨j, v, hj, rfl, hown, hbx, hbw⟩ := hrel
    obtain ⟨D, cap, rfl, hrow⟩ := OwnI.row hown
    rw [pre3_len] at hown hbx
    by_cases hlt : j < k
    · have hlt' : (j : Int) < (k : Int) := by omega
      have e6 := hbx.c6
      have HBB := hide hbx
      have HWW := hide hbw
      have hsz := hbx.lt
      clear hbx hbw hrow
      have hown1 : OwnI wr (X + 1) (.slice D j cap) (pre3 j) := hown
      have hXB : X + 1 ≤ wr.heap.size := hsz
      have hl := pre3_len j
      rw [← hl] at hj hlt
      rw [hl] at hj hlt
      have hl1 : (pre3 j).length ≤ 1000000 := by rw [hl]; omega
      clear hl hown
      go_wp2_with (at_builtin; refine wp_oneI (l := pre3 j) (p := 3) rfl _ _ rfl rfl rfl rfl hown1 hXB hl1 ?_; intro v' w' hown' hb'; obtain ⟨D2, cap2, hv', _⟩ := OwnI.row hown'; rw [← pre3_succ, pre3_len] at hv'; subst hv'; have HB2 := hide (HBB.out.keep hb' (Nat.lt_succ_self X)); have k6 := HB2.out.c6; have kf := HB2.out.f 6; have HN := hide hown'; have HB3 := hide (HWW.out.trans (hb'.mono (show w.heap.size ≤ X + 1 from Nat.le_succ_of_le hXw))); clear hown' hb' hown1)
      go_roundw
      case rel => exact ⟨j + 1, _, by omega, by go_num, by rw [pre3_succ]; exact ownsRow_setCell_below HN.out (a := ⟨X, 6, none⟩) (Nat.lt_succ_self X) _, HB2.out.set6 _, HB3.out.setCell (show w.heap.size ≤ X from hXw) _⟩
      case measure => simp [intOf]; omega
    · obtain rfl : j = k := by omega
      have HL := hide (show Lies wr none 0 none 0 D j [] [] (pre3 j) from ⟨RowD.nil _ _, rfl, by simp, RowI.nil _ _, rfl, by simp, hrow, (pre3_len j).symm, by rw [pre3_len]; omega⟩)
      obtain ⟨c0, c1, c2, c3, c4, c5, c6, _, _⟩ := hbx
      have HWW := hide hbw
      clear hbw hrow hown
      go_wp2_with fail
      refine (ans_is (is_any 3 1 0 (-1) none none D 0 0 0 0 j cap [] [] (pre3 j) _ HL.out) HI.out).mono ?_
      rintro e w2 ⟨rfl, hb2⟩
      have HE := hide (andthen HWW.out hb2)
      clear hb2 c0 c1 c2 c3 c4 c5 c6
      go_wp2_with fail
      go_ret
      exact ⟨ret_bool (fin1 j), HE.out⟩

theorem lists_any (n x : Int) (w : World) (n1 : 0 ≤ n) (n2 : n ≤ 255) (x1 : 0 ≤ x) (x2 : x ≤ 255) :
    Calls Try.prog 7 #[.int .u8 n, .int .u8 x] w (Ans w (.bool true)) := by
  have hk : n % 15 + 1 = (((n % 15 + 1).toNat : Nat) : Int) := by omega
  have hq : x % 4 = 0 ∨ x % 4 = 1 ∨ x % 4 = 2 ∨ x % 4 = 3 := by omega
  rcases hq with hq | hq | hq | hq
  · exact lists_0 n x _ w n1 n2 x1 x2 hk hq
  · exact lists_1 n x _ w n1 n2 x1 x2 hk hq
  · exact lists_2 n x _ w n1 n2 x1 x2 hk hq
  · exact lists_3 n x _ w n1 n2 x1 x2 hk hq

end Go.Proofs.Ytigbfmlpbobpfaa

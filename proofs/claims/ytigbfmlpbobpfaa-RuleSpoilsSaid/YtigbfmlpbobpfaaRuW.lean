/- Walks of the statements of layer 4: fewRule, known. -/
import Derived.Test.YtigbfmlpbobpfaaRuH
namespace Go.Proofs.Ytigbfmlpbobpfaa
open Go.RowKit Rul Go.Sort

def fewB (dn mn yn : Nat) : Bool := decide (dn ≤ 20) && (decide (mn ≤ 20) && decide (yn ≤ 20))
theorem fewB_iff (dn mn yn : Nat) : fewB dn mn yn = true ↔ dn ≤ 20 ∧ mn ≤ 20 ∧ yn ≤ 20 := by simp [fewB]
theorem le20 (n : Nat) : decide ((n : Int) ≤ 20) = decide (n ≤ 20) := by
  by_cases h : n ≤ 20
  · rw [decide_eq_true h, decide_eq_true (by omega)]
  · rw [decide_eq_false h, decide_eq_false (by omega)]
set_option maxHeartbeats 1000000 in
theorem few_any (fr ev ct un : Int) (D M Y : Option Addr) (dn dc mn mc yn yc : Nat) (w : World) :
    Calls Try.prog 10 #[.agg #[.int .i64 fr, .int .i64 ev, .int .i64 ct, .int .i64 un, .slice D dn dc, .slice M mn mc, .slice Y yn yc]] w (Ans w (.bool (fewB dn mn yn))) := by
  cases h1 : decide (dn ≤ 20)
  · have e := hide (show fewB dn mn yn = false by unfold fewB; rw [h1]; rfl)
    have g1 : decide ((dn : Int) ≤ 20) = false := (le20 dn).trans h1
    go_enter Try.func10, Try.ntmps10
    go_wp2_with fail
    go_ret
    exact ⟨ret_bool (by rw [e.out]), more (start _) _⟩
  · have g1 : decide ((dn : Int) ≤ 20) = true := (le20 dn).trans h1
    cases h2 : decide (mn ≤ 20)
    · have e := hide (show fewB dn mn yn = false by unfold fewB; rw [h1, h2]; rfl)
      have g2 : decide ((mn : Int) ≤ 20) = false := (le20 mn).trans h2
      go_enter Try.func10, Try.ntmps10
      go_wp2_with fail
      go_ret
      exact ⟨ret_bool (by rw [e.out]), more (start _) _⟩
    · have e := hide (show fewB dn mn yn = decide (yn ≤ 20) by unfold fewB; rw [h1, h2]; rfl)
      have g2 : decide ((mn : Int) ≤ 20) = true := (le20 mn).trans h2
      have HX := hide (le20 yn)
      go_enter Try.func10, Try.ntmps10
      go_wp2_with fail
      go_ret
      exact ⟨ret_bool (by rw [e.out]; try exact HX.out), more (start _) _⟩

theorem k_once : isB ⟨0, 0, 0, -1, [], [], []⟩ = true := by decide +kernel
theorem k_last : isB ⟨3, 1, 0, -1, [(-1, 4)], [], []⟩ = true := by decide +kernel
theorem k_zero : isB ⟨0, 0, 0, 0, [], [], []⟩ = false := by decide +kernel
theorem k_same : sameB ⟨3, 1, 0, -1, [(-1, 4)], [], []⟩ ⟨3, 1, 0, -1, [(-1, 4)], [], []⟩ = true := by decide +kernel
theorem k_27 : fitsB ⟨3, 1, 0, -1, [(-1, 4)], [], []⟩ 27 = true := by decide +kernel
theorem k_20 : fitsB ⟨3, 1, 0, -1, [(-1, 4)], [], []⟩ 20 = false := by decide +kernel
theorem k_0 : fitsB ⟨0, 0, 0, -1, [], [], []⟩ 0 = false := by decide +kernel
theorem rowD_one (w : World) (x y : Int) (t : TypeId) : RowD (w.alloc (.cells #[.int .i64 x, .int .i64 y] t)) (some ⟨w.heap.size, 0, none⟩) [(x, y)] := fun _ =>
  ⟨w.heap.size, 0, rfl, by simp, fun i hi => by
    obtain rfl : i = 0 := by simpa using hi
    exact ⟨by rw [World.cell?_alloc_at _ _ _ _ rfl]; rfl, by rw [World.cell?_alloc_at _ _ _ _ rfl]; rfl⟩⟩
theorem lies_none (w : World) : Lies w none 0 none 0 none 0 [] [] [] := lies_once w
theorem lies_day {w : World} {A : Option Addr} {x : Wd} (h : RowD w A [x]) : Lies w A 1 none 0 none 0 [x] [] [] :=
  ⟨h, rfl, by simp, RowI.nil _ _, rfl, by simp, RowI.nil _ _, rfl, by simp⟩

set_option maxRecDepth 100000 in
set_option maxHeartbeats 2000000 in
theorem known_any (w : World) : Calls Try.prog 9 #[] w (Ans w (.bool true)) := by
  have HBX := hide (more (more (start w) (.cells #[.int .i64 (-1), .int .i64 4] 33)) (.cells #[.int .i64 3, .int .i64 1, .int .i64 0, .int .i64 (-1), .slice (some ⟨w.heap.size, 0, none⟩) 1 1, .slice none 0 0, .slice none 0 0] 25))
  have L : Hid (Lies ((w.alloc (.cells #[.int .i64 (-1), .int .i64 4] 33)).alloc (.cells #[.int .i64 3, .int .i64 1, .int .i64 0, .int .i64 (-1), .slice (some ⟨w.heap.size, 0, none⟩) 1 1, .slice none 0 0, .slice none 0 0] 25)) (some ⟨w.heap.size, 0, none⟩) 1 none 0 none 0 [(-1, 4)] [] []) := hide (Lies.keep (lies_day (rowD_one w (-1) 4 33)) (more (start _) _))
  have s0 : ((w.alloc (.cells #[.int .i64 (-1), .int .i64 4] 33)).alloc (.cells #[.int .i64 3, .int .i64 1, .int .i64 0, .int .i64 (-1), .slice (some ⟨w.heap.size, 0, none⟩) 1 1, .slice none 0 0, .slice none 0 0] 25)).cell? ⟨w.heap.size + 1, 0, none⟩ = some (.int .i64 3) := by rw [World.cell?_alloc_at _ _ _ _ (by simp)]; rfl
  have s1 : ((w.alloc (.cells #[.int .i64 (-1), .int .i64 4] 33)).alloc (.cells #[.int .i64 3, .int .i64 1, .int .i64 0, .int .i64 (-1), .slice (some ⟨w.heap.size, 0, none⟩) 1 1, .slice none 0 0, .slice none 0 0] 25)).cell? ⟨w.heap.size + 1, 1, none⟩ = some (.int .i64 1) := by rw [World.cell?_alloc_at _ _ _ _ (by simp)]; rfl
  have s2 : ((w.alloc (.cells #[.int .i64 (-1), .int .i64 4] 33)).alloc (.cells #[.int .i64 3, .int .i64 1, .int .i64 0, .int .i64 (-1), .slice (some ⟨w.heap.size, 0, none⟩) 1 1, .slice none 0 0, .slice none 0 0] 25)).cell? ⟨w.heap.size + 1, 2, none⟩ = some (.int .i64 0) := by rw [World.cell?_alloc_at _ _ _ _ (by simp)]; rfl
  have s3 : ((w.alloc (.cells #[.int .i64 (-1), .int .i64 4] 33)).alloc (.cells #[.int .i64 3, .int .i64 1, .int .i64 0, .int .i64 (-1), .slice (some ⟨w.heap.size, 0, none⟩) 1 1, .slice none 0 0, .slice none 0 0] 25)).cell? ⟨w.heap.size + 1, 3, none⟩ = some (.int .i64 (-1)) := by rw [World.cell?_alloc_at _ _ _ _ (by simp)]; rfl
  have s4 : ((w.alloc (.cells #[.int .i64 (-1), .int .i64 4] 33)).alloc (.cells #[.int .i64 3, .int .i64 1, .int .i64 0, .int .i64 (-1), .slice (some ⟨w.heap.size, 0, none⟩) 1 1, .slice none 0 0, .slice none 0 0] 25)).cell? ⟨w.heap.size + 1, 4, none⟩ = some (.slice (some ⟨w.heap.size, 0, none⟩) 1 1) := by rw [World.cell?_alloc_at _ _ _ _ (by simp)]; rfl
  have s5 : ((w.alloc (.cells #[.int .i64 (-1), .int .i64 4] 33)).alloc (.cells #[.int .i64 3, .int .i64 1, .int .i64 0, .int .i64 (-1), .slice (some ⟨w.heap.size, 0, none⟩) 1 1, .slice none 0 0, .slice none 0 0] 25)).cell? ⟨w.heap.size + 1, 5, none⟩ = some (.slice none 0 0) := by rw [World.cell?_alloc_at _ _ _ _ (by simp)]; rfl
  have s6 : ((w.alloc (.cells #[.int .i64 (-1), .int .i64 4] 33)).alloc (.cells #[.int .i64 3, .int .i64 1, .int .i64 0, .int .i64 (-1), .slice (some ⟨w.heap.size, 0, none⟩) 1 1, .slice none 0 0, .slice none 0 0] 25)).cell? ⟨w.heap.size + 1, 6, none⟩ = some (.slice none 0 0) := by rw [World.cell?_alloc_at _ _ _ _ (by simp)]; rfl
  go_enter Try.func9, Try.ntmps9
  go_wp2_with fail
  generalize ((w.alloc (.cells #[.int .i64 (-1), .int .i64 4] 33)).alloc (.cells #[.int .i64 3, .int .i64 1, .int .i64 0, .int .i64 (-1), .slice (some ⟨w.heap.size, 0, none⟩) 1 1, .slice none 0 0, .slice none 0 0] 25)) = W at *
  refine (once_any _).mono ?_
  rintro e w1 ⟨rfl, hb1⟩
  replace HBX := hide (andthen HBX.out hb1)
  replace L := hide (L.out.keep hb1)
  replace s0 := cell_keep hb1 s0
  replace s1 := cell_keep hb1 s1
  replace s2 := cell_keep hb1 s2
  replace s3 := cell_keep hb1 s3
  replace s4 := cell_keep hb1 s4
  replace s5 := cell_keep hb1 s5
  replace s6 := cell_keep hb1 s6
  clear hb1
  go_wp2_with fail
  refine (ans_is (is_any 0 0 0 (-1) none none none 0 0 0 0 0 0 [] [] [] _ (lies_none _)) k_once).mono ?_
  rintro e w1 ⟨rfl, hb1⟩
  replace HBX := hide (andthen HBX.out hb1)
  replace L := hide (L.out.keep hb1)
  replace s0 := cell_keep hb1 s0
  replace s1 := cell_keep hb1 s1
  replace s2 := cell_keep hb1 s2
  replace s3 := cell_keep hb1 s3
  replace s4 := cell_keep hb1 s4
  replace s5 := cell_keep hb1 s5
  replace s6 := cell_keep hb1 s6
  clear hb1
  go_wp2_with fail
  refine (ans_is (is_any 3 1 0 (-1) (some ⟨w.heap.size, 0, none⟩) none none 1 1 0 0 0 0 [(-1, 4)] [] [] _ L.out) k_last).mono ?_
  rintro e w1 ⟨rfl, hb1⟩
  replace HBX := hide (andthen HBX.out hb1)
  replace L := hide (L.out.keep hb1)
  replace s0 := cell_keep hb1 s0
  replace s1 := cell_keep hb1 s1
  replace s2 := cell_keep hb1 s2
  replace s3 := cell_keep hb1 s3
  replace s4 := cell_keep hb1 s4
  replace s5 := cell_keep hb1 s5
  replace s6 := cell_keep hb1 s6
  clear hb1
  go_wp2_with fail
  refine (ans_is (is_any 0 0 0 0 none none none 0 0 0 0 0 0 [] [] [] _ (lies_none _)) k_zero).mono ?_
  rintro e w1 ⟨rfl, hb1⟩
  replace HBX := hide (andthen HBX.out hb1)
  replace L := hide (L.out.keep hb1)
  replace s0 := cell_keep hb1 s0
  replace s1 := cell_keep hb1 s1
  replace s2 := cell_keep hb1 s2
  replace s3 := cell_keep hb1 s3
  replace s4 := cell_keep hb1 s4
  replace s5 := cell_keep hb1 s5
  replace s6 := cell_keep hb1 s6
  clear hb1
  go_wp2_with fail
  refine (ans_is (same_any 3 1 0 (-1) (some ⟨w.heap.size, 0, none⟩) none none 1 1 0 0 0 0 3 1 0 (-1) (some ⟨w.heap.size, 0, none⟩) none none 1 1 0 0 0 0 [(-1, 4)] [] [] [(-1, 4)] [] [] _ L.out L.out) k_same).mono ?_
  rintro e w1 ⟨rfl, hb1⟩
  replace HBX := hide (andthen HBX.out hb1)
  replace L := hide (L.out.keep hb1)
  replace s0 := cell_keep hb1 s0
  replace s1 := cell_keep hb1 s1
  replace s2 := cell_keep hb1 s2
  replace s3 := cell_keep hb1 s3
  replace s4 := cell_keep hb1 s4
  replace s5 := cell_keep hb1 s5
  replace s6 := cell_keep hb1 s6
  clear hb1
  go_wp2_with fail
  refine (ans_is (fits_any 3 1 0 (-1) (some ⟨w.heap.size, 0, none⟩) none none 1 1 0 0 0 0 [(-1, 4)] [] [] 27 _ L.out) k_27).mono ?_
  rintro e w1 ⟨rfl, hb1⟩
  replace HBX := hide (andthen HBX.out hb1)
  replace L := hide (L.out.keep hb1)
  replace s0 := cell_keep hb1 s0
  replace s1 := cell_keep hb1 s1
  replace s2 := cell_keep hb1 s2
  replace s3 := cell_keep hb1 s3
  replace s4 := cell_keep hb1 s4
  replace s5 := cell_keep hb1 s5
  replace s6 := cell_keep hb1 s6
  clear hb1
  go_wp2_with fail
  refine (ans_is (fits_any 3 1 0 (-1) (some ⟨w.heap.size, 0, none⟩) none none 1 1 0 0 0 0 [(-1, 4)] [] [] 20 _ L.out) k_20).mono ?_
  rintro e w1 ⟨rfl, hb1⟩
  replace HBX := hide (andthen HBX.out hb1)
  replace L := hide (L.out.keep hb1)
  replace s0 := cell_keep hb1 s0
  replace s1 := cell_keep hb1 s1
  replace s2 := cell_keep hb1 s2
  replace s3 := cell_keep hb1 s3
  replace s4 := cell_keep hb1 s4
  replace s5 := cell_keep hb1 s5
  replace s6 := cell_keep hb1 s6
  clear hb1
  go_wp2_with fail
  refine (once_any _).mono ?_
  rintro e w1 ⟨rfl, hb1⟩
  replace HBX := hide (andthen HBX.out hb1)
  replace L := hide (L.out.keep hb1)
  replace s0 := cell_keep hb1 s0
  replace s1 := cell_keep hb1 s1
  replace s2 := cell_keep hb1 s2
  replace s3 := cell_keep hb1 s3
  replace s4 := cell_keep hb1 s4
  replace s5 := cell_keep hb1 s5
  replace s6 := cell_keep hb1 s6
  clear hb1
  go_wp2_with fail
  refine (ans_is (fits_any 0 0 0 (-1) none none none 0 0 0 0 0 0 [] [] [] 0 _ (lies_none _)) k_0).mono ?_
  rintro e w1 ⟨rfl, hb1⟩
  replace HBX := hide (andthen HBX.out hb1)
  replace L := hide (L.out.keep hb1)
  replace s0 := cell_keep hb1 s0
  replace s1 := cell_keep hb1 s1
  replace s2 := cell_keep hb1 s2
  replace s3 := cell_keep hb1 s3
  replace s4 := cell_keep hb1 s4
  replace s5 := cell_keep hb1 s5
  replace s6 := cell_keep hb1 s6
  clear hb1
  go_wp2_with fail
  go_ret
  exact ⟨rfl, HBX.out⟩

end Go.Proofs.Ytigbfmlpbobpfaa

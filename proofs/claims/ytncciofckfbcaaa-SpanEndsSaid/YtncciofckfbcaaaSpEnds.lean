/- SpanEnds walked: every number of a minute, every length. -/
import Derived.Test.YtncciofckfbcaaaSpTellsK
namespace Go.Proofs.Ytncciofckfbcaaa
open Go.RowKit Spn Go.Sort

/-- the spans that are none. -/
def bads (m n : Int) : List Sp := [(m, m), (m + n + 1, m), (-n - 1, m), (52596000 - n, 52596001), (52596000, 52596000 + n)]
theorem bads_no (m n : Int) (hn : 0 ≤ n) (j : Nat) (hj : j < (bads m n).length) : okB (bads m n)[j] = false := by
  rw [okB_not]
  have hj5 : j < 5 := hj
  rcases (by omega : j = 0 ∨ j = 1 ∨ j = 2 ∨ j = 3 ∨ j = 4) with rfl | rfl | rfl | rfl | rfl <;> (simp only [bads, List.getElem_cons_zero, List.getElem_cons_succ]; unfold Spn.Ok; simp only; omega)
theorem canon_no (a : Sp) (h : okB a = false) : canon [a] = [] := by
  rw [okB_not] at h; unfold canon; simp only [List.foldl_cons, List.foldl_nil]; unfold addR; rw [if_neg h]
theorem minus_no (a b : Sp) (ha : Spn.Ok a) (h : okB b = false) : minus a b = [a] := by
  rw [minus_ref]; unfold minusR
  rw [if_pos ha, if_neg]
  rw [meet_no2 a b h]; exact not_ok0
theorem within_no (a b : Sp) (h : okB a = false) : withinB a b = true := by
  rw [within_ref]; rw [okB_not] at h; exact decide_eq_true (Or.inl h)
theorem row_pair {w : World} {b off : Nat} {x y : Int} (h0 : w.cell? ⟨b, off, none⟩ = some (.int .i64 x)) (h1 : w.cell? ⟨b, off + 1, none⟩ = some (.int .i64 y)) (hb : b < w.heap.size) : Row w (some ⟨b, off, none⟩) [(x, y)] := fun _ =>
  ⟨b, off, rfl, hb, fun i hi => by
    obtain rfl : i = 0 := by simpa using hi
    exact ⟨by simpa using h0, by simpa using h1⟩⟩
theorem ends_keep {w W W1 : World} {B L j : Nat} {x y m n : Int} (hb : Below W.heap.size W W1) (h : W.cell? ⟨B, j * 2, none⟩ = some (.int .i64 x) ∧ W.cell? ⟨B, j * 2 + 1, none⟩ = some (.int .i64 y) ∧ W.cell? ⟨L, 0, none⟩ = some (.int .i64 52595999) ∧ W.cell? ⟨L, 1, none⟩ = some (.int .i64 52596000) ∧ Box W L 52595999 52596000 ∧ Row W (some ⟨B, 0, none⟩) (bads m n) ∧ B < W.heap.size ∧ Below w.heap.size w W) : W1.cell? ⟨B, j * 2, none⟩ = some (.int .i64 x) ∧ W1.cell? ⟨B, j * 2 + 1, none⟩ = some (.int .i64 y) ∧ W1.cell? ⟨L, 0, none⟩ = some (.int .i64 52595999) ∧ W1.cell? ⟨L, 1, none⟩ = some (.int .i64 52596000) ∧ Box W1 L 52595999 52596000 ∧ Row W1 (some ⟨B, 0, none⟩) (bads m n) ∧ B < W1.heap.size ∧ Below w.heap.size w W1 :=
  have hB := h.2.2.2.2.2.2.1
  have hX := h.2.2.2.2.1.keep hb
  ⟨(hb.cell (p := ⟨B, _, none⟩) hB).trans h.1, (hb.cell (p := ⟨B, _, none⟩) hB).trans h.2.1, hX.c0, hX.c1, hX, h.2.2.2.2.2.1.keep hb, Nat.lt_of_lt_of_le hB hb.size, andthen h.2.2.2.2.2.2.2 hb⟩

set_option linter.unusedSimpArgs false in
set_option maxRecDepth 100000 in
set_option maxHeartbeats 4000000 in
theorem ends_any (a n : Int) (w : World) (ha0 : 0 ≤ a) (ha1 : a ≤ 4294967295) (hn0 : 0 ≤ n) (hn1 : n ≤ 255) :
    Calls Try.prog 8 #[.int .u32 a, .int .u8 n] w fun e w' => e = .returned (.bool true) ∧ Below w.heap.size w w' := by
  have hm0 : 0 ≤ a % 52596000 := by omega
  have hm1 : a % 52596000 < 52596000 := by omega
  go_enter Try.func8, Try.ntmps8
  have HB := start w
  go_wp2_with fail
  refine (known_any _).mono ?_
  rintro e w1 ⟨rfl, hb1⟩
  replace HB := andthen HB hb1
  go_wp2_with fail
  refine (s_any _ _ _).mono ?_
  rintro e w2 ⟨rfl, hb2⟩
  replace HB := more (andthen HB hb2) (.cells #[.int .i64 52595999, .int .i64 52596000] 23)
  have HL := box_new w2 52595999 52596000
  go_wp2_with (go_at_call 29; refine (s_any _ _ _).mono ?_; rintro e w3 ⟨rfl, hb3⟩; replace HB := andthen HB hb3; replace HL := HL.keep hb3)
  generalize a % 52596000 = m at *
  have HR : Row (w3.alloc (.cells #[.int .i64 m, .int .i64 m, .int .i64 (m + n + 1), .int .i64 m, .int .i64 (-n - 1), .int .i64 m, .int .i64 (52596000 - n), .int .i64 52596001, .int .i64 52596000, .int .i64 (52596000 + n)] 42)) (some ⟨w3.heap.size, 0, none⟩) (bads m n) := row_block (heap_alloc_new _ _) rfl
  replace HB := more HB (.cells #[.int .i64 m, .int .i64 m, .int .i64 (m + n + 1), .int .i64 m, .int .i64 (-n - 1), .int .i64 m, .int .i64 (52596000 - n), .int .i64 52596001, .int .i64 52596000, .int .i64 (52596000 + n)] 42)
  replace HL := HL.keep (more (start _) (.cells #[.int .i64 m, .int .i64 m, .int .i64 (m + n + 1), .int .i64 m, .int .i64 (-n - 1), .int .i64 m, .int .i64 (52596000 - n), .int .i64 52596001, .int .i64 52596000, .int .i64 (52596000 + n)] 42))
  have HS : w3.heap.size < (w3.alloc (.cells #[.int .i64 m, .int .i64 m, .int .i64 (m + n + 1), .int .i64 m, .int .i64 (-n - 1), .int .i64 m, .int .i64 (52596000 - n), .int .i64 52596001, .int .i64 52596000, .int .i64 (52596000 + n)] 42)).heap.size := by simp
  generalize w3.alloc (.cells #[.int .i64 m, .int .i64 m, .int .i64 (m + n + 1), .int .i64 m, .int .i64 (-n - 1), .int .i64 m, .int .i64 (52596000 - n), .int .i64 52596001, .int .i64 52596000, .int .i64 (52596000 + n)] 42) = W at *
  generalize w3.heap.size = B at *
  generalize w2.heap.size = L at *
  clear hb1 hb2
  go_loopw [9] (fun i wr => ∃ j : Nat, j ≤ 5 ∧ i = .int .i64 (j : Int) ∧ Box wr L 52595999 52596000 ∧ Row wr (some ⟨B, 0, none⟩) (bads m n) ∧ B < wr.heap.size ∧ Below w.heap.size w wr) (fun i _ => 5 - (intOf i).toNat)
  case atStart => exact ⟨0, by omega, rfl, HL, HR, HS, HB⟩
  case round =>
    clear HL HR HS HB
    obtain ⟨j, hj, rfl, HL, HR, HS, HB⟩ := hrel
    by_cases hlt : j < 5
    · have hjl : j < (bads m n).length := hlt
      have hP0 := bads_no m n hn0 j hjl
      obtain ⟨b, off, hbo, _, hcl⟩ := id (HR (by simp [bads]))
      injection hbo with hbo
      injection hbo with h1 h2 _
      subst h1 h2
      obtain ⟨x1, x2⟩ := hcl j hjl
      obtain ⟨x, y, hxy⟩ : ∃ x y, (bads m n)[j] = (x, y) := ⟨_, _, rfl⟩
      rw [hxy] at x1 x2 hP0
      rw [Nat.zero_add] at x1 x2
      have HP := hide hP0
      have HLO := hide (long_no (x, y) ((okB_not _).1 hP0))
      have HIN := hide (inB_no x y m hP0)
      have HCA := hide (canon_no (x, y) hP0)
      have HWI := hide (within_no (x, y) (52595999, 52596000) hP0)
      have HMI := hide (minus_no (52595999, 52596000) (x, y) (by unfold Spn.Ok; simp) hP0)
      have hS : wr.cell? ⟨B, j * 2, none⟩ = some (.int .i64 x) ∧ wr.cell? ⟨B, j * 2 + 1, none⟩ = some (.int .i64 y) ∧ wr.cell? ⟨L, 0, none⟩ = some (.int .i64 52595999) ∧ wr.cell? ⟨L, 1, none⟩ = some (.int .i64 52596000) ∧ Box wr L 52595999 52596000 ∧ Row wr (some ⟨B, 0, none⟩) (bads m n) ∧ B < wr.heap.size ∧ Below w.heap.size w wr := ⟨x1, x2, HL.c0, HL.c1, HL, HR, HS, HB⟩
      have hj0 : (0 : Int) ≤ (j : Int) := by omega
      have hj1 : (j : Int) < 5 := by omega
      have hj2 : (j : Int) + 1 ≤ 5 := by omega
      have hj3 : (j : Int) ≤ (j : Int) + 1 := by omega
      have hj4 : IntKind.i64.wrap ((j : Int) + 1) = (j : Int) + 1 := IntWalk.i64_in _ (by omega)
      clear x1 x2 hP0 hxy hcl HL HR HS HB hjl
      go_wp2_with fail
      try simp only [List.append]
      refine wp_region_held_drew (S := (fun w' => w'.cell? ⟨B, j * 2, none⟩ = some (.int .i64 x) ∧ w'.cell? ⟨B, j * 2 + 1, none⟩ = some (.int .i64 y) ∧ w'.cell? ⟨L, 0, none⟩ = some (.int .i64 52595999) ∧ w'.cell? ⟨L, 1, none⟩ = some (.int .i64 52596000) ∧ Box w' L 52595999 52596000 ∧ Row w' (some ⟨B, 0, none⟩) (bads m n) ∧ B < w'.heap.size ∧ Below w.heap.size w w')) (by kernel_rfl) ?_ (fun hH0 => ?_)
      · exact ends_keep (Below.drew (start _)) hS
      refine' wpAnyH_take (i := 0) (oi := _) (v := ?v0) rfl (by as_aux_lemma => kernel_rfl) (by as_aux_lemma => kernel_rfl) (by as_aux_lemma => kernel_rfl) (fun _ _ _ h => h) (Or.inl ⟨by rfl, ?y0⟩) hH0 ?r0
      case y0 => (intro w hSw; (try dsimp only at hSw); go_simp; (try with_reducible rfl))
      try simp only [Act.put, List.getElem_toArray, List.getElem_cons_succ, List.getElem_cons_zero, List.setIfInBounds_toArray, List.set_cons_zero, List.set_cons_succ]
      refine' wpAnyH_take (i := 1) (oi := _) (v := ?v1) rfl (by as_aux_lemma => kernel_rfl) (by as_aux_lemma => kernel_rfl) (by as_aux_lemma => kernel_rfl) (fun _ _ _ h => h) (Or.inl ⟨by rfl, ?y1⟩) hH0 ?r1
      case y1 => (intro w hSw; (try dsimp only at hSw); go_simp; (try with_reducible rfl))
      try simp only [Act.put, List.getElem_toArray, List.getElem_cons_succ, List.getElem_cons_zero, List.setIfInBounds_toArray, List.set_cons_zero, List.set_cons_succ]
      refine' wpAnyH_take (i := 2) (oi := _) (v := ?v2) rfl (by as_aux_lemma => kernel_rfl) (by as_aux_lemma => kernel_rfl) (by as_aux_lemma => kernel_rfl) (fun _ _ _ h => h) (Or.inl ⟨by rfl, ?y2⟩) hH0 ?r2
      case y2 => (intro w hSw; (try dsimp only at hSw); go_simp; (try with_reducible rfl))
      try simp only [Act.put, List.getElem_toArray, List.getElem_cons_succ, List.getElem_cons_zero, List.setIfInBounds_toArray, List.set_cons_zero, List.set_cons_succ]
      refine wpAnyH_ready (rs := [3]) (by as_aux_lemma => kernel_rfl) (by simp) ?_
      refine AllReadyH.cons (o := _) rfl (fun K hK => ?_) AllReadyH.nil
      go_simp
      refine (is_at x y false _ HP.out).mono ?_
      rintro e w2 ⟨rfl, hb⟩
      refine hK.out _ _ (ends_keep hb hH0) (fun hN => ?_)
      clear hK K hH0
      have hH1 := hN
      clear hN
      try simp only [Act.put, List.getElem_toArray, List.getElem_cons_succ, List.getElem_cons_zero, List.setIfInBounds_toArray, List.set_cons_zero, List.set_cons_succ]
      refine' wpAnyH_take (i := 4) (oi := _) (v := ?v3) rfl (by as_aux_lemma => kernel_rfl) (by as_aux_lemma => kernel_rfl) (by as_aux_lemma => kernel_rfl) (fun _ _ _ h => h) (Or.inl ⟨by rfl, ?y3⟩) hH1 ?r3
      case y3 => (intro w hSw; (try dsimp only at hSw); go_simp; (try with_reducible rfl))
      try simp only [Act.put, List.getElem_toArray, List.getElem_cons_succ, List.getElem_cons_zero, List.setIfInBounds_toArray, List.set_cons_zero, List.set_cons_succ]
      refine' wpAnyH_take (i := 5) (oi := _) (v := ?v4) rfl (by as_aux_lemma => kernel_rfl) (by as_aux_lemma => kernel_rfl) (by as_aux_lemma => kernel_rfl) (fun _ _ _ h => h) (Or.inl ⟨by rfl, ?y4⟩) hH1 ?r4
      case y4 => (intro w hSw; (try dsimp only at hSw); go_simp; (try with_reducible rfl))
      try simp only [Act.put, List.getElem_toArray, List.getElem_cons_succ, List.getElem_cons_zero, List.setIfInBounds_toArray, List.set_cons_zero, List.set_cons_succ]
      refine' wpAnyH_take (i := 6) (oi := _) (v := ?v5) rfl (by as_aux_lemma => kernel_rfl) (by as_aux_lemma => kernel_rfl) (by as_aux_lemma => kernel_rfl) (fun _ _ _ h => h) (Or.inl ⟨by rfl, ?y5⟩) hH1 ?r5
      case y5 => (intro w hSw; (try dsimp only at hSw); go_simp; (try with_reducible rfl))
      try simp only [Act.put, List.getElem_toArray, List.getElem_cons_succ, List.getElem_cons_zero, List.setIfInBounds_toArray, List.set_cons_zero, List.set_cons_succ]
      refine' wpAnyH_take (i := 7) (oi := _) (v := ?v6) rfl (by as_aux_lemma => kernel_rfl) (by as_aux_lemma => kernel_rfl) (by as_aux_lemma => kernel_rfl) (fun _ _ _ h => h) (Or.inl ⟨by rfl, ?y6⟩) hH1 ?r6
      case y6 => (intro w hSw; (try dsimp only at hSw); go_simp; (try with_reducible rfl))
      try simp only [Act.put, List.getElem_toArray, List.getElem_cons_succ, List.getElem_cons_zero, List.setIfInBounds_toArray, List.set_cons_zero, List.set_cons_succ]
      refine wpAnyH_ready (rs := [8]) (by as_aux_lemma => kernel_rfl) (by simp) ?_
      refine AllReadyH.cons (o := _) rfl (fun K hK => ?_) AllReadyH.nil
      go_simp
      refine (long_is x y 0 _ HLO.out).mono ?_
      rintro e w2 ⟨rfl, hb⟩
      refine hK.out _ _ (ends_keep hb hH1) (fun hN => ?_)
      clear hK K hH1
      have hH2 := hN
      clear hN
      try simp only [Act.put, List.getElem_toArray, List.getElem_cons_succ, List.getElem_cons_zero, List.setIfInBounds_toArray, List.set_cons_zero, List.set_cons_succ]
      refine' wpAnyH_take (i := 9) (oi := _) (v := ?v7) rfl (by as_aux_lemma => kernel_rfl) (by as_aux_lemma => kernel_rfl) (by as_aux_lemma => kernel_rfl) (fun _ _ _ h => h) (Or.inl ⟨by rfl, ?y7⟩) hH2 ?r7
      case y7 => (intro w hSw; (try dsimp only at hSw); go_simp; (try with_reducible rfl))
      try simp only [Act.put, List.getElem_toArray, List.getElem_cons_succ, List.getElem_cons_zero, List.setIfInBounds_toArray, List.set_cons_zero, List.set_cons_succ]
      refine' wpAnyH_take (i := 10) (oi := _) (v := ?v8) rfl (by as_aux_lemma => kernel_rfl) (by as_aux_lemma => kernel_rfl) (by as_aux_lemma => kernel_rfl) (fun _ _ _ h => h) (Or.inl ⟨by rfl, ?y8⟩) hH2 ?r8
      case y8 => (intro w hSw; (try dsimp only at hSw); go_simp; (try with_reducible rfl))
      try simp only [Act.put, List.getElem_toArray, List.getElem_cons_succ, List.getElem_cons_zero, List.setIfInBounds_toArray, List.set_cons_zero, List.set_cons_succ]
      refine' wpAnyH_take (i := 11) (oi := _) (v := ?v9) rfl (by as_aux_lemma => kernel_rfl) (by as_aux_lemma => kernel_rfl) (by as_aux_lemma => kernel_rfl) (fun _ _ _ h => h) (Or.inl ⟨by rfl, ?y9⟩) hH2 ?r9
      case y9 => (intro w hSw; (try dsimp only at hSw); go_simp; (try with_reducible rfl))
      try simp only [Act.put, List.getElem_toArray, List.getElem_cons_succ, List.getElem_cons_zero, List.setIfInBounds_toArray, List.set_cons_zero, List.set_cons_succ]
      refine' wpAnyH_take (i := 12) (oi := _) (v := ?v10) rfl (by as_aux_lemma => kernel_rfl) (by as_aux_lemma => kernel_rfl) (by as_aux_lemma => kernel_rfl) (fun _ _ _ h => h) (Or.inl ⟨by rfl, ?y10⟩) hH2 ?r10
      case y10 => (intro w hSw; (try dsimp only at hSw); go_simp; (try with_reducible rfl))
      try simp only [Act.put, List.getElem_toArray, List.getElem_cons_succ, List.getElem_cons_zero, List.setIfInBounds_toArray, List.set_cons_zero, List.set_cons_succ]
      refine' wpAnyH_take (i := 13) (oi := _) (v := ?v11) rfl (by as_aux_lemma => kernel_rfl) (by as_aux_lemma => kernel_rfl) (by as_aux_lemma => kernel_rfl) (fun _ _ _ h => h) (Or.inl ⟨by rfl, ?y11⟩) hH2 ?r11
      case y11 => (intro w hSw; (try dsimp only at hSw); go_simp; (try with_reducible rfl))
      try simp only [Act.put, List.getElem_toArray, List.getElem_cons_succ, List.getElem_cons_zero, List.setIfInBounds_toArray, List.set_cons_zero, List.set_cons_succ]
      refine' wpAnyH_take (i := 14) (oi := _) (v := ?v12) rfl (by as_aux_lemma => kernel_rfl) (by as_aux_lemma => kernel_rfl) (by as_aux_lemma => kernel_rfl) (fun _ _ _ h => h) (Or.inl ⟨by rfl, ?y12⟩) hH2 ?r12
      case y12 => (intro w hSw; (try dsimp only at hSw); go_simp; (try with_reducible rfl))
      try simp only [Act.put, List.getElem_toArray, List.getElem_cons_succ, List.getElem_cons_zero, List.setIfInBounds_toArray, List.set_cons_zero, List.set_cons_succ]
      refine' wpAnyH_take (i := 15) (oi := _) (v := ?v13) rfl (by as_aux_lemma => kernel_rfl) (by as_aux_lemma => kernel_rfl) (by as_aux_lemma => kernel_rfl) (fun _ _ _ h => h) (Or.inl ⟨by rfl, ?y13⟩) hH2 ?r13
      case y13 => (intro w hSw; (try dsimp only at hSw); go_simp; (try with_reducible rfl))
      try simp only [Act.put, List.getElem_toArray, List.getElem_cons_succ, List.getElem_cons_zero, List.setIfInBounds_toArray, List.set_cons_zero, List.set_cons_succ]
      refine wpAnyH_ready (rs := [16]) (by as_aux_lemma => kernel_rfl) (by simp) ?_
      refine AllReadyH.cons (o := _) rfl (fun K hK => ?_) AllReadyH.nil
      go_simp
      refine (in_is x y m false _ HIN.out).mono ?_
      rintro e w2 ⟨rfl, hb⟩
      refine hK.out _ _ (ends_keep hb hH2) (fun hN => ?_)
      clear hK K hH2
      have hH3 := hN
      clear hN
      try simp only [Act.put, List.getElem_toArray, List.getElem_cons_succ, List.getElem_cons_zero, List.setIfInBounds_toArray, List.set_cons_zero, List.set_cons_succ]
      refine' wpAnyH_take (i := 17) (oi := _) (v := ?v14) rfl (by as_aux_lemma => kernel_rfl) (by as_aux_lemma => kernel_rfl) (by as_aux_lemma => kernel_rfl) (fun _ _ _ h => h) (Or.inl ⟨by rfl, ?y14⟩) hH3 ?r14
      case y14 => (intro w hSw; (try dsimp only at hSw); go_simp; (try with_reducible rfl))
      try simp only [Act.put, List.getElem_toArray, List.getElem_cons_succ, List.getElem_cons_zero, List.setIfInBounds_toArray, List.set_cons_zero, List.set_cons_succ]
      refine' wpAnyH_take (i := 18) (oi := _) (v := ?v15) rfl (by as_aux_lemma => kernel_rfl) (by as_aux_lemma => kernel_rfl) (by as_aux_lemma => kernel_rfl) (fun _ _ _ h => h) (Or.inl ⟨by rfl, ?y15⟩) hH3 ?r15
      case y15 => (intro w hSw; (try dsimp only at hSw); go_simp; (try with_reducible rfl))
      try simp only [Act.put, List.getElem_toArray, List.getElem_cons_succ, List.getElem_cons_zero, List.setIfInBounds_toArray, List.set_cons_zero, List.set_cons_succ]
      refine' wpAnyH_take (i := 19) (oi := _) (v := ?v16) rfl (by as_aux_lemma => kernel_rfl) (by as_aux_lemma => kernel_rfl) (by as_aux_lemma => kernel_rfl) (fun _ _ _ h => h) (Or.inl ⟨by rfl, ?y16⟩) hH3 ?r16
      case y16 => (intro w hSw; (try dsimp only at hSw); go_simp; (try with_reducible rfl))
      try simp only [Act.put, List.getElem_toArray, List.getElem_cons_succ, List.getElem_cons_zero, List.setIfInBounds_toArray, List.set_cons_zero, List.set_cons_succ]
      refine' wpAnyH_take (i := 20) (oi := _) (v := ?v17) rfl (by as_aux_lemma => kernel_rfl) (by as_aux_lemma => kernel_rfl) (by as_aux_lemma => kernel_rfl) (fun _ _ _ h => h) (Or.inl ⟨by rfl, ?y17⟩) hH3 ?r17
      case y17 => (intro w hSw; (try dsimp only at hSw); go_simp; (try with_reducible rfl))
      try simp only [Act.put, List.getElem_toArray, List.getElem_cons_succ, List.getElem_cons_zero, List.setIfInBounds_toArray, List.set_cons_zero, List.set_cons_succ]
      refine' wpAnyH_take (i := 21) (oi := _) (v := ?v18) rfl (by as_aux_lemma => kernel_rfl) (by as_aux_lemma => kernel_rfl) (by as_aux_lemma => kernel_rfl) (fun _ _ _ h => h) (Or.inl ⟨by rfl, ?y18⟩) hH3 ?r18
      case y18 => (intro w hSw; (try dsimp only at hSw); go_simp; (try with_reducible rfl))
      try simp only [Act.put, List.getElem_toArray, List.getElem_cons_succ, List.getElem_cons_zero, List.setIfInBounds_toArray, List.set_cons_zero, List.set_cons_succ]
      refine' wpAnyH_take (i := 22) (oi := _) (v := ?v19) rfl (by as_aux_lemma => kernel_rfl) (by as_aux_lemma => kernel_rfl) (by as_aux_lemma => kernel_rfl) (fun _ _ _ h => h) (Or.inl ⟨by rfl, ?y19⟩) hH3 ?r19
      case y19 => (intro w hSw; (try dsimp only at hSw); go_simp; (try with_reducible rfl))
      try simp only [Act.put, List.getElem_toArray, List.getElem_cons_succ, List.getElem_cons_zero, List.setIfInBounds_toArray, List.set_cons_zero, List.set_cons_succ]
      refine wpAnyH_ready (rs := [23]) (by as_aux_lemma => kernel_rfl) (by simp) ?_
      refine AllReadyH.cons (o := _) rfl (fun K hK => ?_) AllReadyH.nil
      go_simp
      rw [if_neg (by omega)]
      refine (all_is _ _ _ [(x, y)] [] _ (row_pair hH3.1 hH3.2.1 hH3.2.2.2.2.2.2.1) rfl (by simp) HCA.out).mono ?_
      rintro e w2 ⟨v1, rfl, hown1, hb⟩
      obtain ⟨A1, c1, rfl, _⟩ := Own.row hown1
      refine hK.out _ _ (ends_keep hb hH3) (fun hN => ?_)
      clear hK K hH3
      have hH4 := hN
      clear hN
      try simp only [Act.put, List.getElem_toArray, List.getElem_cons_succ, List.getElem_cons_zero, List.setIfInBounds_toArray, List.set_cons_zero, List.set_cons_succ]
      refine' wpAnyH_take (i := 24) (oi := _) (v := ?v20) rfl (by as_aux_lemma => kernel_rfl) (by as_aux_lemma => kernel_rfl) (by as_aux_lemma => kernel_rfl) (fun _ _ _ h => h) (Or.inl ⟨by rfl, ?y20⟩) hH4 ?r20
      case y20 => (intro w hSw; (try dsimp only at hSw); go_simp; (try with_reducible rfl))
      try simp only [Act.put, List.getElem_toArray, List.getElem_cons_succ, List.getElem_cons_zero, List.setIfInBounds_toArray, List.set_cons_zero, List.set_cons_succ]
      refine' wpAnyH_take (i := 25) (oi := _) (v := ?v21) rfl (by as_aux_lemma => kernel_rfl) (by as_aux_lemma => kernel_rfl) (by as_aux_lemma => kernel_rfl) (fun _ _ _ h => h) (Or.inl ⟨by rfl, ?y21⟩) hH4 ?r21
      case y21 => (intro w hSw; (try dsimp only at hSw); go_simp; (try with_reducible rfl))
      try simp only [Act.put, List.getElem_toArray, List.getElem_cons_succ, List.getElem_cons_zero, List.setIfInBounds_toArray, List.set_cons_zero, List.set_cons_succ]
      refine' wpAnyH_take (i := 26) (oi := _) (v := ?v22) rfl (by as_aux_lemma => kernel_rfl) (by as_aux_lemma => kernel_rfl) (by as_aux_lemma => kernel_rfl) (fun _ _ _ h => h) (Or.inl ⟨by rfl, ?y22⟩) hH4 ?r22
      case y22 => (intro w hSw; (try dsimp only at hSw); go_simp; (try with_reducible rfl))
      try simp only [Act.put, List.getElem_toArray, List.getElem_cons_succ, List.getElem_cons_zero, List.setIfInBounds_toArray, List.set_cons_zero, List.set_cons_succ]
      refine' wpAnyH_take (i := 27) (oi := _) (v := ?v23) rfl (by as_aux_lemma => kernel_rfl) (by as_aux_lemma => kernel_rfl) (by as_aux_lemma => kernel_rfl) (fun _ _ _ h => h) (Or.inl ⟨by rfl, ?y23⟩) hH4 ?r23
      case y23 => (intro w hSw; (try dsimp only at hSw); go_simp; (try with_reducible rfl))
      try simp only [Act.put, List.getElem_toArray, List.getElem_cons_succ, List.getElem_cons_zero, List.setIfInBounds_toArray, List.set_cons_zero, List.set_cons_succ]
      refine' wpAnyH_take (i := 28) (oi := _) (v := ?v24) rfl (by as_aux_lemma => kernel_rfl) (by as_aux_lemma => kernel_rfl) (by as_aux_lemma => kernel_rfl) (fun _ _ _ h => h) (Or.inl ⟨by rfl, ?y24⟩) hH4 ?r24
      case y24 => (intro w hSw; (try dsimp only at hSw); go_simp; (try with_reducible rfl))
      try simp only [Act.put, List.getElem_toArray, List.getElem_cons_succ, List.getElem_cons_zero, List.setIfInBounds_toArray, List.set_cons_zero, List.set_cons_succ]
      refine' wpAnyH_take (i := 29) (oi := _) (v := ?v25) rfl (by as_aux_lemma => kernel_rfl) (by as_aux_lemma => kernel_rfl) (by as_aux_lemma => kernel_rfl) (fun _ _ _ h => h) (Or.inl ⟨by rfl, ?y25⟩) hH4 ?r25
      case y25 => (intro w hSw; (try dsimp only at hSw); go_simp; (try with_reducible rfl))
      try simp only [Act.put, List.getElem_toArray, List.getElem_cons_succ, List.getElem_cons_zero, List.setIfInBounds_toArray, List.set_cons_zero, List.set_cons_succ]
      refine' wpAnyH_take (i := 30) (oi := _) (v := ?v26) rfl (by as_aux_lemma => kernel_rfl) (by as_aux_lemma => kernel_rfl) (by as_aux_lemma => kernel_rfl) (fun _ _ _ h => h) (Or.inl ⟨by rfl, ?y26⟩) hH4 ?r26
      case y26 => (intro w hSw; (try dsimp only at hSw); go_simp; (try with_reducible rfl))
      try simp only [Act.put, List.getElem_toArray, List.getElem_cons_succ, List.getElem_cons_zero, List.setIfInBounds_toArray, List.set_cons_zero, List.set_cons_succ]
      refine' wpAnyH_take (i := 31) (oi := _) (v := ?v27) rfl (by as_aux_lemma => kernel_rfl) (by as_aux_lemma => kernel_rfl) (by as_aux_lemma => kernel_rfl) (fun _ _ _ h => h) (Or.inl ⟨by rfl, ?y27⟩) hH4 ?r27
      case y27 => (intro w hSw; (try dsimp only at hSw); go_simp; (try with_reducible rfl))
      try simp only [Act.put, List.getElem_toArray, List.getElem_cons_succ, List.getElem_cons_zero, List.setIfInBounds_toArray, List.set_cons_zero, List.set_cons_succ]
      refine wpAnyH_ready (rs := [32]) (by as_aux_lemma => kernel_rfl) (by simp) ?_
      refine AllReadyH.cons (o := _) rfl (fun K hK => ?_) AllReadyH.nil
      go_simp
      refine (within_is x y 52595999 52596000 true _ HWI.out).mono ?_
      rintro e w2 ⟨rfl, hb⟩
      refine hK.out _ _ (ends_keep hb hH4) (fun hN => ?_)
      clear hK K hH4
      have hH5 := hN
      clear hN
      try simp only [Act.put, List.getElem_toArray, List.getElem_cons_succ, List.getElem_cons_zero, List.setIfInBounds_toArray, List.set_cons_zero, List.set_cons_succ]
      refine' wpAnyH_take (i := 33) (oi := _) (v := ?v28) rfl (by as_aux_lemma => kernel_rfl) (by as_aux_lemma => kernel_rfl) (by as_aux_lemma => kernel_rfl) (fun _ _ _ h => h) (Or.inl ⟨by rfl, ?y28⟩) hH5 ?r28
      case y28 => (intro w hSw; (try dsimp only at hSw); go_simp; (try with_reducible rfl))
      try simp only [Act.put, List.getElem_toArray, List.getElem_cons_succ, List.getElem_cons_zero, List.setIfInBounds_toArray, List.set_cons_zero, List.set_cons_succ]
      refine' wpAnyH_take (i := 34) (oi := _) (v := ?v29) rfl (by as_aux_lemma => kernel_rfl) (by as_aux_lemma => kernel_rfl) (by as_aux_lemma => kernel_rfl) (fun _ _ _ h => h) (Or.inl ⟨by rfl, ?y29⟩) hH5 ?r29
      case y29 => (intro w hSw; (try dsimp only at hSw); go_simp; (try with_reducible rfl))
      try simp only [Act.put, List.getElem_toArray, List.getElem_cons_succ, List.getElem_cons_zero, List.setIfInBounds_toArray, List.set_cons_zero, List.set_cons_succ]
      refine' wpAnyH_take (i := 35) (oi := _) (v := ?v30) rfl (by as_aux_lemma => kernel_rfl) (by as_aux_lemma => kernel_rfl) (by as_aux_lemma => kernel_rfl) (fun _ _ _ h => h) (Or.inl ⟨by rfl, ?y30⟩) hH5 ?r30
      case y30 => (intro w hSw; (try dsimp only at hSw); go_simp; (try with_reducible rfl))
      try simp only [Act.put, List.getElem_toArray, List.getElem_cons_succ, List.getElem_cons_zero, List.setIfInBounds_toArray, List.set_cons_zero, List.set_cons_succ]
      refine' wpAnyH_take (i := 36) (oi := _) (v := ?v31) rfl (by as_aux_lemma => kernel_rfl) (by as_aux_lemma => kernel_rfl) (by as_aux_lemma => kernel_rfl) (fun _ _ _ h => h) (Or.inl ⟨by rfl, ?y31⟩) hH5 ?r31
      case y31 => (intro w hSw; (try dsimp only at hSw); go_simp; (try with_reducible rfl))
      try simp only [Act.put, List.getElem_toArray, List.getElem_cons_succ, List.getElem_cons_zero, List.setIfInBounds_toArray, List.set_cons_zero, List.set_cons_succ]
      refine' wpAnyH_take (i := 37) (oi := _) (v := ?v32) rfl (by as_aux_lemma => kernel_rfl) (by as_aux_lemma => kernel_rfl) (by as_aux_lemma => kernel_rfl) (fun _ _ _ h => h) (Or.inl ⟨by rfl, ?y32⟩) hH5 ?r32
      case y32 => (intro w hSw; (try dsimp only at hSw); go_simp; (try with_reducible rfl))
      try simp only [Act.put, List.getElem_toArray, List.getElem_cons_succ, List.getElem_cons_zero, List.setIfInBounds_toArray, List.set_cons_zero, List.set_cons_succ]
      refine' wpAnyH_take (i := 38) (oi := _) (v := ?v33) rfl (by as_aux_lemma => kernel_rfl) (by as_aux_lemma => kernel_rfl) (by as_aux_lemma => kernel_rfl) (fun _ _ _ h => h) (Or.inl ⟨by rfl, ?y33⟩) hH5 ?r33
      case y33 => (intro w hSw; (try dsimp only at hSw); go_simp; (try with_reducible rfl))
      try simp only [Act.put, List.getElem_toArray, List.getElem_cons_succ, List.getElem_cons_zero, List.setIfInBounds_toArray, List.set_cons_zero, List.set_cons_succ]
      refine' wpAnyH_take (i := 39) (oi := _) (v := ?v34) rfl (by as_aux_lemma => kernel_rfl) (by as_aux_lemma => kernel_rfl) (by as_aux_lemma => kernel_rfl) (fun _ _ _ h => h) (Or.inl ⟨by rfl, ?y34⟩) hH5 ?r34
      case y34 => (intro w hSw; (try dsimp only at hSw); go_simp; (try with_reducible rfl))
      try simp only [Act.put, List.getElem_toArray, List.getElem_cons_succ, List.getElem_cons_zero, List.setIfInBounds_toArray, List.set_cons_zero, List.set_cons_succ]
      refine wpAnyH_ready (rs := [40]) (by as_aux_lemma => kernel_rfl) (by simp) ?_
      refine AllReadyH.cons (o := _) rfl (fun K hK => ?_) AllReadyH.nil
      go_simp
      refine (minus_is 52595999 52596000 x y [(52595999, 52596000)] _ HMI.out).mono ?_
      rintro e w2 ⟨v1, rfl, hown1, hb⟩
      obtain ⟨A1, c1, rfl, _⟩ := Own.row hown1
      refine hK.out _ _ (ends_keep hb hH5) (fun hN => ?_)
      clear hK K hH5
      have hH6 := hN
      clear hN
      try simp only [Act.put, List.getElem_toArray, List.getElem_cons_succ, List.getElem_cons_zero, List.setIfInBounds_toArray, List.set_cons_zero, List.set_cons_succ]
      refine' wpAnyH_take (i := 41) (oi := _) (v := ?v35) rfl (by as_aux_lemma => kernel_rfl) (by as_aux_lemma => kernel_rfl) (by as_aux_lemma => kernel_rfl) (fun _ _ _ h => h) (Or.inl ⟨by rfl, ?y35⟩) hH6 ?r35
      case y35 => (intro w hSw; (try dsimp only at hSw); go_simp; (try with_reducible rfl))
      try simp only [Act.put, List.getElem_toArray, List.getElem_cons_succ, List.getElem_cons_zero, List.setIfInBounds_toArray, List.set_cons_zero, List.set_cons_succ]
      refine' wpAnyH_take (i := 42) (oi := _) (v := ?v36) rfl (by as_aux_lemma => kernel_rfl) (by as_aux_lemma => kernel_rfl) (by as_aux_lemma => kernel_rfl) (fun _ _ _ h => h) (Or.inl ⟨by rfl, ?y36⟩) hH6 ?r36
      case y36 => (intro w hSw; (try dsimp only at hSw); go_simp; (try with_reducible rfl))
      try simp only [Act.put, List.getElem_toArray, List.getElem_cons_succ, List.getElem_cons_zero, List.setIfInBounds_toArray, List.set_cons_zero, List.set_cons_succ]
      refine' wpAnyH_take (i := 43) (oi := _) (v := ?v37) rfl (by as_aux_lemma => kernel_rfl) (by as_aux_lemma => kernel_rfl) (by as_aux_lemma => kernel_rfl) (fun _ _ _ h => h) (Or.inl ⟨by rfl, ?y37⟩) hH6 ?r37
      case y37 => (intro w hSw; (try dsimp only at hSw); go_simp; (try with_reducible rfl))
      try simp only [Act.put, List.getElem_toArray, List.getElem_cons_succ, List.getElem_cons_zero, List.setIfInBounds_toArray, List.set_cons_zero, List.set_cons_succ]
      refine wpAnyH_done (by as_aux_lemma => kernel_rfl) ?_ _
      obtain ⟨_, _, _, _, hbL, hrB, hltB, hbel⟩ := hH6
      clear HP HLO HIN HCA HWI HMI
      go_wp2_with fail
      go_roundw
      case rel => exact ⟨j + 1, by omega, by go_num, hbL, hrB, hltB, hbel⟩
      case measure => simp [intOf]; omega
    · obtain ⟨c0, c1, _⟩ := id HL
      go_wp2_with fail
      refine (is_at _ _ true _ (by decide)).mono ?_
      rintro e w4 ⟨rfl, hb4⟩
      clear c0 c1
      replace HL := HL.keep hb4
      replace HB := andthen HB hb4
      obtain ⟨c0, c1, _⟩ := id HL
      go_wp2_with fail
      refine (in_is _ _ _ true _ (by decide)).mono ?_
      rintro e w5 ⟨rfl, hb5⟩
      clear c0 c1
      replace HL := HL.keep hb5
      replace HB := andthen HB hb5
      obtain ⟨c0, c1, _⟩ := id HL
      go_wp2_with fail
      refine (in_is _ _ _ false _ (by decide)).mono ?_
      rintro e w6 ⟨rfl, hb6⟩
      go_wp2_with fail
      go_ret
      exact ⟨rfl, andthen HB hb6⟩

end Go.Proofs.Ytncciofckfbcaaa

/- SpanGrid walked: every number of pieces, every length, every one left out. -/
import Derived.Test.YtncciofckfbcaaaSpTellsK
import Derived.Deep.DeepCutAuto
namespace Go.Proofs.Ytncciofckfbcaaa
open Go.RowKit Spn Go.Sort

theorem blk_row (x y : Int) (W : World) : Row (W.alloc (.cells #[.int .i64 x, .int .i64 y] 23)) (some ⟨W.heap.size, 0, none⟩) [(x, y)] := row_block (heap_alloc_new _ _) rfl
theorem blk_drew (x y : Int) (W : World) : Row (W.alloc (.cells #[.int .i64 x, .int .i64 y] 23)).drew (some ⟨W.heap.size, 0, none⟩) [(x, y)] := (blk_row x y W).keep (Below.drew (start _))
theorem grid_keep {w W W1 : World} {X : Nat} {KZ : Int} {A1 A2 : Option Addr} {G E : List Sp} (hb : Below W.heap.size W W1) (h : W.cell? ⟨X, 0, none⟩ = some (.int .i64 0) ∧ W.cell? ⟨X, 1, none⟩ = some (.int .i64 KZ) ∧ Box W X 0 KZ ∧ Row W A1 G ∧ Row W A2 E ∧ Below w.heap.size w W) : W1.cell? ⟨X, 0, none⟩ = some (.int .i64 0) ∧ W1.cell? ⟨X, 1, none⟩ = some (.int .i64 KZ) ∧ Box W1 X 0 KZ ∧ Row W1 A1 G ∧ Row W1 A2 E ∧ Below w.heap.size w W1 :=
  have hX := h.2.2.1.keep hb
  ⟨hX.c0, hX.c1, hX, h.2.2.2.1.keep hb, h.2.2.2.2.1.keep hb, andthen h.2.2.2.2.2 hb⟩
theorem grid_take (z : Int) (k c : Nat) (h : c < k) : (gridL z k).take (c + 1) = (gridL z k).take c ++ [piece z (k - 1 - c)] := by
  have hl : c < (gridL z k).length := by rw [gridL_len]; exact h
  rw [List.take_succ_eq_append_getElem hl, grid_get]
theorem grid_get2 {z : Int} {k : Nat} {G : List Sp} (hG : gridL z k = G) (i : Nat) (h : i < G.length) : G[i] = piece z (k - 1 - i) := by subst hG; exact grid_get z k i h
theorem mul_bd (k : Nat) (z : Int) (hk : k ≤ 17) (hz : 1 ≤ z) (hz2 : z ≤ 256) : 0 ≤ (k : Int) * z ∧ (k : Int) * z ≤ 4352 := by
  refine ⟨Int.mul_nonneg (by omega) (by omega), ?_⟩
  have h1 : (k : Int) * z ≤ (k : Int) * 256 := Int.mul_le_mul_of_nonneg_left hz2 (by omega)
  omega

set_option linter.unusedSimpArgs false in
set_option maxRecDepth 100000 in
set_option maxHeartbeats 4000000 in
theorem grid_main (n s o z KZ JZ J1Z : Int) (k jj NE ND : Nat) (G E D : List Sp) (w : World) (hn0 : 0 ≤ n) (hn1 : n ≤ 255) (hs0 : 0 ≤ s) (hs1 : s ≤ 255) (ho0 : 0 ≤ o) (ho1 : o ≤ 255)
    (hk : n % 15 + 2 = (k : Int)) (hz : s + 1 = z) (hj : o % (k : Int) = (jj : Int)) (hKZ : (k : Int) * z = KZ) (hJZ : (jj : Int) * z = JZ) (hJ1Z : ((jj : Int) + 1) * z = J1Z) (hjz1 : 0 ≤ (jj : Int) * z ∧ (jj : Int) * z ≤ 4352) (hjz2 : 0 ≤ ((jj : Int) + 1) * z ∧ ((jj : Int) + 1) * z ≤ 4352)
    (hGd : gridL z k = G) (hEd : restL z k jj k = E) (hG : canon G = [(0, KZ)]) (hGL : G.length = k) (hE : canon E = D) (hEL : E.length = NE) (hD : minus (0, KZ) (JZ, J1Z) = D) (hDL : D.length = ND) (hNE : NE ≤ 17) (hND : ND ≤ 2) :
    Calls Try.prog 7 #[.int .u8 n, .int .u8 s, .int .u8 o] w fun e w' => e = .returned (.bool true) ∧ Below w.heap.size w w' := by
  have HK := hide hk
  have HZ := hide hz
  have HJ := hide hj
  have HKZ := hide hKZ
  have HJZ := hide hJZ
  have HJ1Z := hide hJ1Z
  rw [hJZ] at hjz1
  rw [hJ1Z] at hjz2
  have HGD := hide hGd
  have HED := hide hEd
  have HG := hide hG
  have HGL := hide hGL
  have HE := hide hE
  have HEL := hide hEL
  have HD := hide hD
  have HDL := hide hDL
  have hk1 : 2 ≤ k := by omega
  have hk2 : k ≤ 16 := by omega
  have hz1 : 1 ≤ z := by omega
  have hz2 : z ≤ 256 := by omega
  have hjj : jj < k := by
    have := Int.emod_lt_of_pos o (show (0 : Int) < k by omega)
    omega
  have hkz := mul_bd k z (by omega) hz1 hz2
  clear hk hz hj hKZ hJZ hJ1Z hGd hEd hG hGL hE hEL hD hDL
  go_enter Try.func7, Try.ntmps7
  go_wp2_with fail
  refine (known_any _).mono ?_
  rintro e w1 ⟨rfl, hb1⟩
  go_wp2_with fail
  rw [HK.out, HZ.out]
  clear hn0 hn1
  go_loopw [9, 10] (fun v i wr => ∃ c : Nat, c ≤ k ∧ i = .int .i64 ((k : Int) - 1 - (c : Int)) ∧ Own wr w.heap.size v ((gridL z k).take c) ∧ Below w.heap.size w wr) (fun _ i _ => (intOf i + 1).toNat)
  case atStart => exact ⟨0, Nat.zero_le _, by simp, World.ownsRow_nil _ _ _ _, hb1⟩
  case round =>
    obtain ⟨c, hc, rfl, hown, hbw⟩ := hrel
    by_cases hlt : c < k
    · obtain ⟨j, hj⟩ : ∃ j : Nat, k - 1 - c = j := ⟨_, rfl⟩
      have hji : (k : Int) - 1 - (c : Int) = (j : Int) := by omega
      have HT := hide (grid_take z k c hlt)
      have hp := mul_bd j z (by omega) hz1 hz2
      have hq := mul_bd (j + 1) z (by omega) hz1 hz2
      have hq2 : ((j + 1 : Nat) : Int) * z = ((j : Int) + 1) * z := by rw [Int.natCast_succ]
      rw [hq2] at hq
      have HJ2 := hide hj
      have hgl : ((gridL z k).take c).length ≤ 16 := by rw [List.length_take]; omega
      have hjb : j < 16 := by omega
      rw [hji]
      clear hq2 hj hji
      go_wp2_with fail
      refine (s_any _ _ _).mono ?_
      rintro e w2 ⟨rfl, hb2⟩
      have hown2 := Own.keep hown hb2
      have hbb := andthen hbw hb2
      go_wp2_with (at_builtin; refine wp_one (l := (gridL z k).take c) (p := ((j : Int) * z, ((j : Int) + 1) * z)) rfl _ _ rfl rfl rfl rfl hown2 hbb.size (by omega) ?_; intro v3 w3 hown3 hb3)
      go_roundw
      case rel => exact ⟨c + 1, by omega, by have := HJ2.out; congr 1; omega, by rw [HT.out, HJ2.out]; exact hown3, hbb.trans hb3⟩
      case measure => simp [intOf]
    · obtain rfl : c = k := by omega
      rw [List.take_of_length_le (by rw [gridL_len]; exact Nat.le_refl _), HGD.out] at hown
      obtain ⟨A1, c1, rfl, hr1⟩ := Own.row hown
      rw [HGL.out]
      clear hown
      have hjr : (0 : Int) < (c : Int) := by omega
      go_wp2_with fail
      rw [HJ.out, HKZ.out]
      refine (s_any _ _ _).mono ?_
      rintro e w2 ⟨rfl, hb2⟩
      replace hbw := more (andthen hbw hb2) (.cells #[.int .i64 0, .int .i64 KZ] 23)
      replace hr1 := (hr1.keep hb2).keep (more (start _) (.cells #[.int .i64 0, .int .i64 KZ] 23))
      have HX := box_new w2 0 KZ
      go_wp2_with fail
      generalize w2.alloc (.cells #[.int .i64 0, .int .i64 KZ] 23) = W at *
      generalize w2.heap.size = X at *
      clear hb2
      go_loopw [13, 14] (fun v i wr => ∃ q : Nat, q ≤ c ∧ i = .int .i64 (q : Int) ∧ Own wr W.heap.size v (restL z c jj q) ∧ Below W.heap.size W wr) (fun _ i _ => c - (intOf i).toNat)
      case atStart => exact ⟨0, Nat.zero_le _, rfl, World.ownsRow_nil _ _ _ _, start _⟩
      case round =>
        obtain ⟨q, hq, rfl, hown, hbq⟩ := hrel
        replace HX := HX.keep hbq
        have hrW := hr1
        replace hr1 := hr1.keep hbq
        by_cases hlt : q < c
        · have hqG : q < G.length := by have := HGL.out; omega
          have hq0 : (0 : Int) ≤ (q : Int) := by omega
          have hq1 : (q : Int) < (c : Int) := by omega
          by_cases hne : q = c - 1 - jj
          · have HRS := hide (restL_skip z c jj q hne)
            have hI : ((q : Int) != (c : Int) - 1 - (jj : Int)) = false := by rw [bne_eq_false_iff_eq]; omega
            go_wp2_with fail
            go_roundw
            case rel => exact ⟨q + 1, by omega, by go_num, by rw [HRS.out]; exact hown, hbq⟩
            case measure => simp [intOf]; omega
          · have HRS := hide (restL_hit z c jj q hne)
            have HGI := hide (grid_get2 HGD.out q hqG)
            have hrl := restL_len z c jj q
            have hI : ((q : Int) != (c : Int) - 1 - (jj : Int)) = true := by rw [bne_iff_ne]; omega
            obtain ⟨b, off, rfl, hb, hcl⟩ := id (hr1 (by rintro rfl; simp at hqG))
            obtain ⟨x1, x2⟩ := hcl q hqG
            clear hcl
            go_wp2_with (at_builtin; refine wp_one (l := restL z c jj q) (p := G[q]) rfl _ _ rfl rfl rfl rfl hown hbq.size (by omega) ?_; intro v3 w3 hown3 hb3)
            go_roundw
            case rel => exact ⟨q + 1, by omega, by go_num, by rw [HRS.out, ← HGI.out]; exact hown3, hbq.trans hb3⟩
            case measure => simp [intOf]; omega
        · obtain rfl : q = c := by omega
          rw [HED.out] at hown
          obtain ⟨A2, c2, rfl, hr2⟩ := Own.row hown
          rw [HEL.out]
          have hbA := andthen hbw hbq
          clear hown
          go_wp2_with fail
          have hS : wr.cell? ⟨X, 0, none⟩ = some (.int .i64 0) ∧ wr.cell? ⟨X, 1, none⟩ = some (.int .i64 KZ) ∧ Box wr X 0 KZ ∧ Row wr A1 G ∧ Row wr A2 E ∧ Below w.heap.size w wr := ⟨HX.c0, HX.c1, HX, hr1, hr2, hbA⟩
          have hq1 : IntKind.i64.wrap ((jj : Int) * z) = JZ := by rw [HJZ.out]; exact IntWalk.i64_in _ (by have := hjz1; omega)
          have hq2 : IntKind.i64.wrap ((jj : Int) + 1) = (jj : Int) + 1 := IntWalk.i64_in _ (by omega)
          have hq3 : IntKind.i64.wrap (((jj : Int) + 1) * z) = J1Z := by rw [HJ1Z.out]; exact IntWalk.i64_in _ (by have := hjz2; omega)
          clear HX hr1 hr2 hbA hrW hbq
          try simp only [List.append]
          refine wp_region_held_drew (S := (fun w' => w'.cell? ⟨X, 0, none⟩ = some (.int .i64 0) ∧ w'.cell? ⟨X, 1, none⟩ = some (.int .i64 KZ) ∧ Box w' X 0 KZ ∧ Row w' A1 G ∧ Row w' A2 E ∧ Below w.heap.size w w')) (by kernel_rfl) ?_ (fun hH0 => ?_)
          · exact grid_keep (Below.drew (start _)) hS
          refine' wpAnyH_take (i := 0) (oi := _) (v := ?v0) rfl (by as_aux_lemma => kernel_rfl) (by as_aux_lemma => kernel_rfl) (by as_aux_lemma => kernel_rfl) (fun _ _ _ h => h) (Or.inl ⟨by rfl, ?y0⟩) hH0 ?r0
          case y0 => (intro w hSw; (try dsimp only at hSw); go_simp; (try with_reducible rfl))
          try simp only [Act.put, List.getElem_toArray, List.getElem_cons_succ, List.getElem_cons_zero, List.setIfInBounds_toArray, List.set_cons_zero, List.set_cons_succ]
          refine' wpAnyH_take (i := 2) (oi := _) (v := ?v1) rfl (by as_aux_lemma => kernel_rfl) (by as_aux_lemma => kernel_rfl) (by as_aux_lemma => kernel_rfl) (fun _ _ _ h => h) (Or.inl ⟨by rfl, ?y1⟩) hH0 ?r1
          case y1 => (intro w hSw; (try dsimp only at hSw); go_simp; (try with_reducible rfl))
          try simp only [Act.put, List.getElem_toArray, List.getElem_cons_succ, List.getElem_cons_zero, List.setIfInBounds_toArray, List.set_cons_zero, List.set_cons_succ]
          refine wpAnyH_ready (rs := [1, 3]) (by as_aux_lemma => kernel_rfl) (by simp) ?_
          refine AllReadyH.cons (o := _) rfl (fun K hK => ?_) (AllReadyH.cons (o := _) rfl (fun K hK => ?_) AllReadyH.nil)
          · go_simp
            refine (all_is A1 _ c1 G [(0, KZ)] _ hH0.2.2.2.1 HGL.out.symm (by rw [HGL.out]; omega) HG.out).mono ?_
            rintro e w2 ⟨v3, rfl, hown3, hb⟩
            obtain ⟨A3, c3, rfl, hr3⟩ := Own.row hown3
            have hbA := hb
            refine hK.out _ _ (grid_keep hb hH0) (fun hN => ?_)
            clear hK K hH0
            have hH1 := hN
            clear hN
            try simp only [Act.put, List.getElem_toArray, List.getElem_cons_succ, List.getElem_cons_zero, List.setIfInBounds_toArray, List.set_cons_zero, List.set_cons_succ]
            refine wpAnyH_ready (rs := [3]) (by as_aux_lemma => kernel_rfl) (by simp) ?_
            refine AllReadyH.cons (o := _) rfl (fun K hK => ?_) AllReadyH.nil
            go_simp
            refine hK.out _ _ (grid_keep (more (start _) _) hH1) (fun hN => ?_)
            clear hK K hH1
            have hH2 := hN
            clear hN
            try simp only [Act.put, List.getElem_toArray, List.getElem_cons_succ, List.getElem_cons_zero, List.setIfInBounds_toArray, List.set_cons_zero, List.set_cons_succ]
            refine wpAnyH_ready (rs := [4]) (by as_aux_lemma => kernel_rfl) (by simp) ?_
            refine AllReadyH.cons (o := _) rfl (fun K hK => ?_) AllReadyH.nil
            go_simp
            first
              | refine (R.same_self _ _ _ _ _ _ [(0, KZ)] _ hr3 ((blk_drew 0 KZ _).keep hbA) rfl rfl (by simp)).mono ?_
              | refine (R.same_self _ _ _ _ _ _ [(0, KZ)] _ (hr3.keep (more (start _) _)) (blk_row 0 KZ _) rfl rfl (by simp)).mono ?_
            rintro e w2 ⟨rfl, hb⟩
            clear hown3 hr3 hbA
            refine hK.out _ _ (grid_keep hb hH2) (fun hN => ?_)
            clear hK K hH2
            have hH3 := hN
            clear hN
            try simp only [Act.put, List.getElem_toArray, List.getElem_cons_succ, List.getElem_cons_zero, List.setIfInBounds_toArray, List.set_cons_zero, List.set_cons_succ]
            refine' wpAnyH_take (i := 5) (oi := _) (v := ?v2) rfl (by as_aux_lemma => kernel_rfl) (by as_aux_lemma => kernel_rfl) (by as_aux_lemma => kernel_rfl) (fun _ _ _ h => h) (Or.inl ⟨by rfl, ?y2⟩) hH3 ?r2
            case y2 => (intro w hSw; (try dsimp only at hSw); go_simp; (try with_reducible rfl))
            try simp only [Act.put, List.getElem_toArray, List.getElem_cons_succ, List.getElem_cons_zero, List.setIfInBounds_toArray, List.set_cons_zero, List.set_cons_succ]
            refine' wpAnyH_take (i := 6) (oi := _) (v := ?v3) rfl (by as_aux_lemma => kernel_rfl) (by as_aux_lemma => kernel_rfl) (by as_aux_lemma => kernel_rfl) (fun _ _ _ h => h) (Or.inl ⟨by rfl, ?y3⟩) hH3 ?r3
            case y3 => (intro w hSw; (try dsimp only at hSw); go_simp; (try with_reducible rfl))
            try simp only [Act.put, List.getElem_toArray, List.getElem_cons_succ, List.getElem_cons_zero, List.setIfInBounds_toArray, List.set_cons_zero, List.set_cons_succ]
            refine' wpAnyH_take (i := 8) (oi := _) (v := ?v4) rfl (by as_aux_lemma => kernel_rfl) (by as_aux_lemma => kernel_rfl) (by as_aux_lemma => kernel_rfl) (fun _ _ _ h => h) (Or.inl ⟨by rfl, ?y4⟩) hH3 ?r4
            case y4 => (intro w hSw; (try dsimp only at hSw); go_simp; (try with_reducible rfl))
            try simp only [Act.put, List.getElem_toArray, List.getElem_cons_succ, List.getElem_cons_zero, List.setIfInBounds_toArray, List.set_cons_zero, List.set_cons_succ]
            refine' wpAnyH_take (i := 9) (oi := _) (v := ?v5) rfl (by as_aux_lemma => kernel_rfl) (by as_aux_lemma => kernel_rfl) (by as_aux_lemma => kernel_rfl) (fun _ _ _ h => h) (Or.inl ⟨by rfl, ?y5⟩) hH3 ?r5
            case y5 => (intro w hSw; (try dsimp only at hSw); go_simp; (try with_reducible rfl))
            try simp only [Act.put, List.getElem_toArray, List.getElem_cons_succ, List.getElem_cons_zero, List.setIfInBounds_toArray, List.set_cons_zero, List.set_cons_succ]
            refine' wpAnyH_take (i := 10) (oi := _) (v := ?v6) rfl (by as_aux_lemma => kernel_rfl) (by as_aux_lemma => kernel_rfl) (by as_aux_lemma => kernel_rfl) (fun _ _ _ h => h) (Or.inl ⟨by rfl, ?y6⟩) hH3 ?r6
            case y6 => (intro w hSw; (try dsimp only at hSw); go_simp; (try with_reducible rfl))
            try simp only [Act.put, List.getElem_toArray, List.getElem_cons_succ, List.getElem_cons_zero, List.setIfInBounds_toArray, List.set_cons_zero, List.set_cons_succ]
            refine' wpAnyH_take (i := 11) (oi := _) (v := ?v7) rfl (by as_aux_lemma => kernel_rfl) (by as_aux_lemma => kernel_rfl) (by as_aux_lemma => kernel_rfl) (fun _ _ _ h => h) (Or.inl ⟨by rfl, ?y7⟩) hH3 ?r7
            case y7 => (intro w hSw; (try dsimp only at hSw); go_simp; (try with_reducible rfl))
            try simp only [Act.put, List.getElem_toArray, List.getElem_cons_succ, List.getElem_cons_zero, List.setIfInBounds_toArray, List.set_cons_zero, List.set_cons_succ]
            refine' wpAnyH_take (i := 12) (oi := _) (v := ?v8) rfl (by as_aux_lemma => kernel_rfl) (by as_aux_lemma => kernel_rfl) (by as_aux_lemma => kernel_rfl) (fun _ _ _ h => h) (Or.inl ⟨by rfl, ?y8⟩) hH3 ?r8
            case y8 => (intro w hSw; (try dsimp only at hSw); go_simp; (try with_reducible rfl))
            try simp only [Act.put, List.getElem_toArray, List.getElem_cons_succ, List.getElem_cons_zero, List.setIfInBounds_toArray, List.set_cons_zero, List.set_cons_succ]
            refine' wpAnyH_take (i := 13) (oi := _) (v := ?v9) rfl (by as_aux_lemma => kernel_rfl) (by as_aux_lemma => kernel_rfl) (by as_aux_lemma => kernel_rfl) (fun _ _ _ h => h) (Or.inl ⟨by rfl, ?y9⟩) hH3 ?r9
            case y9 => (intro w hSw; (try dsimp only at hSw); go_simp; (try with_reducible rfl))
            try simp only [Act.put, List.getElem_toArray, List.getElem_cons_succ, List.getElem_cons_zero, List.setIfInBounds_toArray, List.set_cons_zero, List.set_cons_succ]
            refine' wpAnyH_take (i := 14) (oi := _) (v := ?v10) rfl (by as_aux_lemma => kernel_rfl) (by as_aux_lemma => kernel_rfl) (by as_aux_lemma => kernel_rfl) (fun _ _ _ h => h) (Or.inl ⟨by rfl, ?y10⟩) hH3 ?r10
            case y10 => (intro w hSw; (try dsimp only at hSw); go_simp; (try with_reducible rfl))
            try simp only [Act.put, List.getElem_toArray, List.getElem_cons_succ, List.getElem_cons_zero, List.setIfInBounds_toArray, List.set_cons_zero, List.set_cons_succ]
            refine' wpAnyH_take (i := 15) (oi := _) (v := ?v11) rfl (by as_aux_lemma => kernel_rfl) (by as_aux_lemma => kernel_rfl) (by as_aux_lemma => kernel_rfl) (fun _ _ _ h => h) (Or.inl ⟨by rfl, ?y11⟩) hH3 ?r11
            case y11 => (intro w hSw; (try dsimp only at hSw); go_simp; (try with_reducible rfl))
            try simp only [Act.put, List.getElem_toArray, List.getElem_cons_succ, List.getElem_cons_zero, List.setIfInBounds_toArray, List.set_cons_zero, List.set_cons_succ]
            refine wpAnyH_ready (rs := [7]) (by as_aux_lemma => kernel_rfl) (by simp) ?_
            refine AllReadyH.cons (o := _) rfl (fun K hK => ?_) AllReadyH.nil
            go_simp
            refine (all_is A2 _ c2 E D _ hH3.2.2.2.2.1 HEL.out.symm (by rw [HEL.out]; omega) HE.out).mono ?_
            rintro e w2 ⟨v5, rfl, hown5, hb⟩
            obtain ⟨A5, c5, rfl, hr5⟩ := Own.row hown5
            rw [HDL.out]
            refine hK.out _ _ (grid_keep hb hH3) (fun hN => ?_)
            clear hK K hH3
            have hH4 := hN
            clear hN
            try simp only [Act.put, List.getElem_toArray, List.getElem_cons_succ, List.getElem_cons_zero, List.setIfInBounds_toArray, List.set_cons_zero, List.set_cons_succ]
            refine wpAnyH_ready (rs := [16]) (by as_aux_lemma => kernel_rfl) (by simp) ?_
            refine AllReadyH.cons (o := _) rfl (fun K hK => ?_) AllReadyH.nil
            go_simp
            refine (s_any _ _ _).mono ?_
            rintro e w2 ⟨rfl, hb⟩
            replace hr5 := hr5.keep hb
            refine hK.out _ _ (grid_keep hb hH4) (fun hN => ?_)
            clear hK K hH4
            have hH5 := hN
            clear hN
            try simp only [Act.put, List.getElem_toArray, List.getElem_cons_succ, List.getElem_cons_zero, List.setIfInBounds_toArray, List.set_cons_zero, List.set_cons_succ]
            refine wpAnyH_ready (rs := [17]) (by as_aux_lemma => kernel_rfl) (by simp) ?_
            refine AllReadyH.cons (o := _) rfl (fun K hK => ?_) AllReadyH.nil
            go_simp
            refine (minus_is 0 KZ JZ J1Z D _ HD.out).mono ?_
            rintro e w2 ⟨v6, rfl, hown6, hb⟩
            obtain ⟨A6, c6, rfl, hr6⟩ := Own.row hown6
            rw [HDL.out]
            replace hr5 := hr5.keep hb
            refine hK.out _ _ (grid_keep hb hH5) (fun hN => ?_)
            clear hK K hH5
            have hH6 := hN
            clear hN
            try simp only [Act.put, List.getElem_toArray, List.getElem_cons_succ, List.getElem_cons_zero, List.setIfInBounds_toArray, List.set_cons_zero, List.set_cons_succ]
            refine wpAnyH_ready (rs := [18]) (by as_aux_lemma => kernel_rfl) (by simp) ?_
            refine AllReadyH.cons (o := _) rfl (fun K hK => ?_) AllReadyH.nil
            go_simp
            refine (R.same_self _ _ _ _ _ _ D _ hr5 hr6 HDL.out.symm HDL.out.symm (by rw [HDL.out]; omega)).mono ?_
            rintro e w2 ⟨rfl, hb⟩
            refine hK.out _ _ (grid_keep hb hH6) (fun hN => ?_)
            clear hK K hH6
            have hH7 := hN
            clear hN
            try simp only [Act.put, List.getElem_toArray, List.getElem_cons_succ, List.getElem_cons_zero, List.setIfInBounds_toArray, List.set_cons_zero, List.set_cons_succ]
            refine' wpAnyH_take (i := 19) (oi := _) (v := ?v12) rfl (by as_aux_lemma => kernel_rfl) (by as_aux_lemma => kernel_rfl) (by as_aux_lemma => kernel_rfl) (fun _ _ _ h => h) (Or.inl ⟨by rfl, ?y12⟩) hH7 ?r12
            case y12 => (intro w hSw; (try dsimp only at hSw); go_simp; (try with_reducible rfl))
            try simp only [Act.put, List.getElem_toArray, List.getElem_cons_succ, List.getElem_cons_zero, List.setIfInBounds_toArray, List.set_cons_zero, List.set_cons_succ]
            refine' wpAnyH_take (i := 20) (oi := _) (v := ?v13) rfl (by as_aux_lemma => kernel_rfl) (by as_aux_lemma => kernel_rfl) (by as_aux_lemma => kernel_rfl) (fun _ _ _ h => h) (Or.inl ⟨by rfl, ?y13⟩) hH7 ?r13
            case y13 => (intro w hSw; (try dsimp only at hSw); go_simp; (try with_reducible rfl))
            try simp only [Act.put, List.getElem_toArray, List.getElem_cons_succ, List.getElem_cons_zero, List.setIfInBounds_toArray, List.set_cons_zero, List.set_cons_succ]
            refine wpAnyH_done (by as_aux_lemma => kernel_rfl) ?_ _
            obtain ⟨_, _, _, _, _, hbel⟩ := hH7
            go_wp2_with fail
            go_ret
            exact ⟨rfl, hbel⟩
          · go_simp
            refine hK.out _ _ (grid_keep (more (start _) _) hH0) (fun hN => ?_)
            clear hK K hH0
            have hH1 := hN
            clear hN
            try simp only [Act.put, List.getElem_toArray, List.getElem_cons_succ, List.getElem_cons_zero, List.setIfInBounds_toArray, List.set_cons_zero, List.set_cons_succ]
            refine wpAnyH_ready (rs := [1]) (by as_aux_lemma => kernel_rfl) (by simp) ?_
            refine AllReadyH.cons (o := _) rfl (fun K hK => ?_) AllReadyH.nil
            go_simp
            refine (all_is A1 _ c1 G [(0, KZ)] _ hH1.2.2.2.1 HGL.out.symm (by rw [HGL.out]; omega) HG.out).mono ?_
            rintro e w2 ⟨v3, rfl, hown3, hb⟩
            obtain ⟨A3, c3, rfl, hr3⟩ := Own.row hown3
            have hbA := hb
            refine hK.out _ _ (grid_keep hb hH1) (fun hN => ?_)
            clear hK K hH1
            have hH2 := hN
            clear hN
            try simp only [Act.put, List.getElem_toArray, List.getElem_cons_succ, List.getElem_cons_zero, List.setIfInBounds_toArray, List.set_cons_zero, List.set_cons_succ]
            refine wpAnyH_ready (rs := [4]) (by as_aux_lemma => kernel_rfl) (by simp) ?_
            refine AllReadyH.cons (o := _) rfl (fun K hK => ?_) AllReadyH.nil
            go_simp
            first
              | refine (R.same_self _ _ _ _ _ _ [(0, KZ)] _ hr3 ((blk_drew 0 KZ _).keep hbA) rfl rfl (by simp)).mono ?_
              | refine (R.same_self _ _ _ _ _ _ [(0, KZ)] _ (hr3.keep (more (start _) _)) (blk_row 0 KZ _) rfl rfl (by simp)).mono ?_
            rintro e w2 ⟨rfl, hb⟩
            clear hown3 hr3 hbA
            refine hK.out _ _ (grid_keep hb hH2) (fun hN => ?_)
            clear hK K hH2
            have hH3 := hN
            clear hN
            try simp only [Act.put, List.getElem_toArray, List.getElem_cons_succ, List.getElem_cons_zero, List.setIfInBounds_toArray, List.set_cons_zero, List.set_cons_succ]
            refine' wpAnyH_take (i := 5) (oi := _) (v := ?v14) rfl (by as_aux_lemma => kernel_rfl) (by as_aux_lemma => kernel_rfl) (by as_aux_lemma => kernel_rfl) (fun _ _ _ h => h) (Or.inl ⟨by rfl, ?y14⟩) hH3 ?r14
            case y14 => (intro w hSw; (try dsimp only at hSw); go_simp; (try with_reducible rfl))
            try simp only [Act.put, List.getElem_toArray, List.getElem_cons_succ, List.getElem_cons_zero, List.setIfInBounds_toArray, List.set_cons_zero, List.set_cons_succ]
            refine' wpAnyH_take (i := 6) (oi := _) (v := ?v15) rfl (by as_aux_lemma => kernel_rfl) (by as_aux_lemma => kernel_rfl) (by as_aux_lemma => kernel_rfl) (fun _ _ _ h => h) (Or.inl ⟨by rfl, ?y15⟩) hH3 ?r15
            case y15 => (intro w hSw; (try dsimp only at hSw); go_simp; (try with_reducible rfl))
            try simp only [Act.put, List.getElem_toArray, List.getElem_cons_succ, List.getElem_cons_zero, List.setIfInBounds_toArray, List.set_cons_zero, List.set_cons_succ]
            refine' wpAnyH_take (i := 8) (oi := _) (v := ?v16) rfl (by as_aux_lemma => kernel_rfl) (by as_aux_lemma => kernel_rfl) (by as_aux_lemma => kernel_rfl) (fun _ _ _ h => h) (Or.inl ⟨by rfl, ?y16⟩) hH3 ?r16
            case y16 => (intro w hSw; (try dsimp only at hSw); go_simp; (try with_reducible rfl))
            try simp only [Act.put, List.getElem_toArray, List.getElem_cons_succ, List.getElem_cons_zero, List.setIfInBounds_toArray, List.set_cons_zero, List.set_cons_succ]
            refine' wpAnyH_take (i := 9) (oi := _) (v := ?v17) rfl (by as_aux_lemma => kernel_rfl) (by as_aux_lemma => kernel_rfl) (by as_aux_lemma => kernel_rfl) (fun _ _ _ h => h) (Or.inl ⟨by rfl, ?y17⟩) hH3 ?r17
            case y17 => (intro w hSw; (try dsimp only at hSw); go_simp; (try with_reducible rfl))
            try simp only [Act.put, List.getElem_toArray, List.getElem_cons_succ, List.getElem_cons_zero, List.setIfInBounds_toArray, List.set_cons_zero, List.set_cons_succ]
            refine' wpAnyH_take (i := 10) (oi := _) (v := ?v18) rfl (by as_aux_lemma => kernel_rfl) (by as_aux_lemma => kernel_rfl) (by as_aux_lemma => kernel_rfl) (fun _ _ _ h => h) (Or.inl ⟨by rfl, ?y18⟩) hH3 ?r18
            case y18 => (intro w hSw; (try dsimp only at hSw); go_simp; (try with_reducible rfl))
            try simp only [Act.put, List.getElem_toArray, List.getElem_cons_succ, List.getElem_cons_zero, List.setIfInBounds_toArray, List.set_cons_zero, List.set_cons_succ]
            refine' wpAnyH_take (i := 11) (oi := _) (v := ?v19) rfl (by as_aux_lemma => kernel_rfl) (by as_aux_lemma => kernel_rfl) (by as_aux_lemma => kernel_rfl) (fun _ _ _ h => h) (Or.inl ⟨by rfl, ?y19⟩) hH3 ?r19
            case y19 => (intro w hSw; (try dsimp only at hSw); go_simp; (try with_reducible rfl))
            try simp only [Act.put, List.getElem_toArray, List.getElem_cons_succ, List.getElem_cons_zero, List.setIfInBounds_toArray, List.set_cons_zero, List.set_cons_succ]
            refine' wpAnyH_take (i := 12) (oi := _) (v := ?v20) rfl (by as_aux_lemma => kernel_rfl) (by as_aux_lemma => kernel_rfl) (by as_aux_lemma => kernel_rfl) (fun _ _ _ h => h) (Or.inl ⟨by rfl, ?y20⟩) hH3 ?r20
            case y20 => (intro w hSw; (try dsimp only at hSw); go_simp; (try with_reducible rfl))
            try simp only [Act.put, List.getElem_toArray, List.getElem_cons_succ, List.getElem_cons_zero, List.setIfInBounds_toArray, List.set_cons_zero, List.set_cons_succ]
            refine' wpAnyH_take (i := 13) (oi := _) (v := ?v21) rfl (by as_aux_lemma => kernel_rfl) (by as_aux_lemma => kernel_rfl) (by as_aux_lemma => kernel_rfl) (fun _ _ _ h => h) (Or.inl ⟨by rfl, ?y21⟩) hH3 ?r21
            case y21 => (intro w hSw; (try dsimp only at hSw); go_simp; (try with_reducible rfl))
            try simp only [Act.put, List.getElem_toArray, List.getElem_cons_succ, List.getElem_cons_zero, List.setIfInBounds_toArray, List.set_cons_zero, List.set_cons_succ]
            refine' wpAnyH_take (i := 14) (oi := _) (v := ?v22) rfl (by as_aux_lemma => kernel_rfl) (by as_aux_lemma => kernel_rfl) (by as_aux_lemma => kernel_rfl) (fun _ _ _ h => h) (Or.inl ⟨by rfl, ?y22⟩) hH3 ?r22
            case y22 => (intro w hSw; (try dsimp only at hSw); go_simp; (try with_reducible rfl))
            try simp only [Act.put, List.getElem_toArray, List.getElem_cons_succ, List.getElem_cons_zero, List.setIfInBounds_toArray, List.set_cons_zero, List.set_cons_succ]
            refine' wpAnyH_take (i := 15) (oi := _) (v := ?v23) rfl (by as_aux_lemma => kernel_rfl) (by as_aux_lemma => kernel_rfl) (by as_aux_lemma => kernel_rfl) (fun _ _ _ h => h) (Or.inl ⟨by rfl, ?y23⟩) hH3 ?r23
            case y23 => (intro w hSw; (try dsimp only at hSw); go_simp; (try with_reducible rfl))
            try simp only [Act.put, List.getElem_toArray, List.getElem_cons_succ, List.getElem_cons_zero, List.setIfInBounds_toArray, List.set_cons_zero, List.set_cons_succ]
            refine wpAnyH_ready (rs := [7]) (by as_aux_lemma => kernel_rfl) (by simp) ?_
            refine AllReadyH.cons (o := _) rfl (fun K hK => ?_) AllReadyH.nil
            go_simp
            refine (all_is A2 _ c2 E D _ hH3.2.2.2.2.1 HEL.out.symm (by rw [HEL.out]; omega) HE.out).mono ?_
            rintro e w2 ⟨v5, rfl, hown5, hb⟩
            obtain ⟨A5, c5, rfl, hr5⟩ := Own.row hown5
            rw [HDL.out]
            refine hK.out _ _ (grid_keep hb hH3) (fun hN => ?_)
            clear hK K hH3
            have hH4 := hN
            clear hN
            try simp only [Act.put, List.getElem_toArray, List.getElem_cons_succ, List.getElem_cons_zero, List.setIfInBounds_toArray, List.set_cons_zero, List.set_cons_succ]
            refine wpAnyH_ready (rs := [16]) (by as_aux_lemma => kernel_rfl) (by simp) ?_
            refine AllReadyH.cons (o := _) rfl (fun K hK => ?_) AllReadyH.nil
            go_simp
            refine (s_any _ _ _).mono ?_
            rintro e w2 ⟨rfl, hb⟩
            replace hr5 := hr5.keep hb
            refine hK.out _ _ (grid_keep hb hH4) (fun hN => ?_)
            clear hK K hH4
            have hH5 := hN
            clear hN
            try simp only [Act.put, List.getElem_toArray, List.getElem_cons_succ, List.getElem_cons_zero, List.setIfInBounds_toArray, List.set_cons_zero, List.set_cons_succ]
            refine wpAnyH_ready (rs := [17]) (by as_aux_lemma => kernel_rfl) (by simp) ?_
            refine AllReadyH.cons (o := _) rfl (fun K hK => ?_) AllReadyH.nil
            go_simp
            refine (minus_is 0 KZ JZ J1Z D _ HD.out).mono ?_
            rintro e w2 ⟨v6, rfl, hown6, hb⟩
            obtain ⟨A6, c6, rfl, hr6⟩ := Own.row hown6
            rw [HDL.out]
            replace hr5 := hr5.keep hb
            refine hK.out _ _ (grid_keep hb hH5) (fun hN => ?_)
            clear hK K hH5
            have hH6 := hN
            clear hN
            try simp only [Act.put, List.getElem_toArray, List.getElem_cons_succ, List.getElem_cons_zero, List.setIfInBounds_toArray, List.set_cons_zero, List.set_cons_succ]
            refine wpAnyH_ready (rs := [18]) (by as_aux_lemma => kernel_rfl) (by simp) ?_
            refine AllReadyH.cons (o := _) rfl (fun K hK => ?_) AllReadyH.nil
            go_simp
            refine (R.same_self _ _ _ _ _ _ D _ hr5 hr6 HDL.out.symm HDL.out.symm (by rw [HDL.out]; omega)).mono ?_
            rintro e w2 ⟨rfl, hb⟩
            refine hK.out _ _ (grid_keep hb hH6) (fun hN => ?_)
            clear hK K hH6
            have hH7 := hN
            clear hN
            try simp only [Act.put, List.getElem_toArray, List.getElem_cons_succ, List.getElem_cons_zero, List.setIfInBounds_toArray, List.set_cons_zero, List.set_cons_succ]
            refine' wpAnyH_take (i := 19) (oi := _) (v := ?v24) rfl (by as_aux_lemma => kernel_rfl) (by as_aux_lemma => kernel_rfl) (by as_aux_lemma => kernel_rfl) (fun _ _ _ h => h) (Or.inl ⟨by rfl, ?y24⟩) hH7 ?r24
            case y24 => (intro w hSw; (try dsimp only at hSw); go_simp; (try with_reducible rfl))
            try simp only [Act.put, List.getElem_toArray, List.getElem_cons_succ, List.getElem_cons_zero, List.setIfInBounds_toArray, List.set_cons_zero, List.set_cons_succ]
            refine' wpAnyH_take (i := 20) (oi := _) (v := ?v25) rfl (by as_aux_lemma => kernel_rfl) (by as_aux_lemma => kernel_rfl) (by as_aux_lemma => kernel_rfl) (fun _ _ _ h => h) (Or.inl ⟨by rfl, ?y25⟩) hH7 ?r25
            case y25 => (intro w hSw; (try dsimp only at hSw); go_simp; (try with_reducible rfl))
            try simp only [Act.put, List.getElem_toArray, List.getElem_cons_succ, List.getElem_cons_zero, List.setIfInBounds_toArray, List.set_cons_zero, List.set_cons_succ]
            refine wpAnyH_done (by as_aux_lemma => kernel_rfl) ?_ _
            obtain ⟨_, _, _, _, _, hbel⟩ := hH7
            go_wp2_with fail
            go_ret
            exact ⟨rfl, hbel⟩

theorem grid_any (n s o : Int) (w : World) (hn0 : 0 ≤ n) (hn1 : n ≤ 255) (hs0 : 0 ≤ s) (hs1 : s ≤ 255) (ho0 : 0 ≤ o) (ho1 : o ≤ 255) :
    Calls Try.prog 7 #[.int .u8 n, .int .u8 s, .int .u8 o] w fun e w' => e = .returned (.bool true) ∧ Below w.heap.size w w' := by
  obtain ⟨k, hk⟩ : ∃ k : Nat, n % 15 + 2 = (k : Int) := ⟨(n % 15 + 2).toNat, by omega⟩
  have hk1 : 2 ≤ k := by omega
  have hk2 : k ≤ 16 := by omega
  have hk0 : (0 : Int) < (k : Int) := by omega
  have h1 := Int.emod_nonneg o (show (k : Int) ≠ 0 by omega)
  have h2 := Int.emod_lt_of_pos o hk0
  obtain ⟨jj, hj⟩ : ∃ jj : Nat, o % (k : Int) = (jj : Int) := ⟨(o % (k : Int)).toNat, by omega⟩
  have hjk : jj < k := by omega
  have hkz := mul_bd k (s + 1) (by omega) (by omega) (by omega)
  have hjz1 := mul_bd jj (s + 1) (by omega) (by omega) (by omega)
  have hjz2 := mul_bd (jj + 1) (s + 1) (by omega) (by omega) (by omega)
  rw [Int.natCast_succ] at hjz2
  refine grid_main n s o (s + 1) _ _ _ k jj _ _ _ _ _ w hn0 hn1 hs0 hs1 ho0 ho1 hk rfl hj rfl rfl rfl hjz1 hjz2 rfl rfl (grid_whole (s + 1) (by omega) k (by omega) (by omega)) (gridL_len _ _) (rest_minus (s + 1) (by omega) k jj hjk (by omega)) rfl rfl rfl ?_ (minus_len _ _)
  have := restL_len (s + 1) k jj k
  omega

end Go.Proofs.Ytncciofckfbcaaa

/- SpansCopies walked: whatever is in a set, whatever is added, cut. Written by recipes/copies3.py. -/
import Derived.Test.YtkjkegjekfebpaaSnV
import Derived.Test.YtkjkegjekfebpaaSpBox
namespace Go.Proofs.Ytkjkegjekfebpaa
open Go.RowKit Spn

theorem Box.other {w w' : World} {b g : Nat} {x y : Int} (h : Box w b x y) (hc : Chg g w w') (hne : b ≠ g) : Box w' b x y :=
  ⟨hc.cell' hne h.c0, hc.cell' hne h.c1, Nat.lt_of_lt_of_le h.lt (World.grownBy.size hc)⟩
theorem own_row {w : World} {B : Nat} {A : Option Addr} {n c : Nat} {l : List Sp} (h : Own w B (.slice A n c) l) : Row w A l := by
  obtain ⟨A', c', e, hr⟩ := Own.row h
  injection e with e1 _ _
  rw [e1]; exact hr
theorem addR_len (l : List Sp) (a : Sp) : (addR l a).length ≤ l.length + 1 := by
  unfold addR; split
  · exact addL_len l a
  · omega
theorem copies_keep {w W W1 : World} {gc gd gt : Nat} {x1 y1 x2 y2 : Int} {l : List Sp} {A0 : Option Addr} {c0 : Nat} (hb : Below W.heap.size W W1) (h : SetAt W gc (addR (canon l) (x1, y1)) ∧ SetAt W gd (subR (canon l) (x2, y2)) ∧ SetAt W gt (addR (canon l) (x2, y2)) ∧ W.cell? ⟨w.heap.size, 0, none⟩ = some (.int .i64 x1) ∧ W.cell? ⟨w.heap.size, 1, none⟩ = some (.int .i64 y1) ∧ W.cell? ⟨w.heap.size + 1, 0, none⟩ = some (.int .i64 x2) ∧ W.cell? ⟨w.heap.size + 1, 1, none⟩ = some (.int .i64 y2) ∧ Own W w.heap.size (.slice A0 (canon l).length c0) (canon l) ∧ Below w.heap.size w W) : SetAt W1 gc (addR (canon l) (x1, y1)) ∧ SetAt W1 gd (subR (canon l) (x2, y2)) ∧ SetAt W1 gt (addR (canon l) (x2, y2)) ∧ W1.cell? ⟨w.heap.size, 0, none⟩ = some (.int .i64 x1) ∧ W1.cell? ⟨w.heap.size, 1, none⟩ = some (.int .i64 y1) ∧ W1.cell? ⟨w.heap.size + 1, 0, none⟩ = some (.int .i64 x2) ∧ W1.cell? ⟨w.heap.size + 1, 1, none⟩ = some (.int .i64 y2) ∧ Own W1 w.heap.size (.slice A0 (canon l).length c0) (canon l) ∧ Below w.heap.size w W1 :=
  ⟨h.1.keep hb, h.2.1.keep hb, h.2.2.1.keep hb, cell_keep hb h.2.2.2.1, cell_keep hb h.2.2.2.2.1, cell_keep hb h.2.2.2.2.2.1, cell_keep hb h.2.2.2.2.2.2.1, Own.keep h.2.2.2.2.2.2.2.1 hb, andthen h.2.2.2.2.2.2.2.2 hb⟩

set_option linter.unusedSimpArgs false in
set_option maxRecDepth 100000 in
set_option maxHeartbeats 4000000 in
theorem copies_main (A : Option Addr) (n c : Nat) (l : List Sp) (x1 y1 x2 y2 : Int) (w : World) (h : Row w A l) (he : n = l.length) (hn : l.length ≤ maxLen) :
    Calls Try.prog 6 #[.slice A n c, .agg #[.int .i64 x1, .int .i64 y1], .agg #[.int .i64 x2, .int .i64 y2]] w fun e w' => e = .returned (.bool true) ∧ Below w.heap.size w w' := by
  subst he
  unfold maxLen at hn
  have HB := more (more (start w) (.cells #[.int .i64 x1, .int .i64 y1] 25)) (.cells #[.int .i64 x2, .int .i64 y2] 25)
  have hq := boxes_new w x1 y1 x2 y2
  have ba : Box ((w.alloc (.cells #[.int .i64 x1, .int .i64 y1] 25)).alloc (.cells #[.int .i64 x2, .int .i64 y2] 25)) w.heap.size x1 y1 := ⟨hq.a0, hq.a1, Nat.lt_of_succ_lt hq.lt⟩
  have bb : Box ((w.alloc (.cells #[.int .i64 x1, .int .i64 y1] 25)).alloc (.cells #[.int .i64 x2, .int .i64 y2] 25)) (w.heap.size + 1) x2 y2 := ⟨hq.b0, hq.b1, hq.lt⟩
  have HROW := hide h
  clear h hq
  by_cases hl : 30 < l.length
  · go_enter Try.func6, Try.ntmps6
    go_wp2_with fail
    refine (known_any _).mono ?_
    rintro e w1 ⟨rfl, hb⟩
    replace HB := andthen HB hb
    go_wp2_with fail
    go_ret
    exact ⟨rfl, HB⟩
  · have e0 := canon_len l
    have e1 := addR_len (canon l) (x1, y1)
    have e2 := addR_len (canon l) (x2, y2)
    have e3 := subR_two (canon l) (x2, y2)
    have HNEAT := hide (canon_neat l).1
    go_enter Try.func6, Try.ntmps6
    go_wp2_with fail
    refine (known_any _).mono ?_
    rintro e w1 ⟨rfl, hb⟩
    replace ba := ba.keep hb
    replace bb := bb.keep hb
    replace HB := andthen HB hb
    clear hb
    go_wp2_with fail
    refine (of_any A _ c l _ (HROW.out.keep HB) rfl (by omega)).mono ?_
    rintro e w2 ⟨gt, rfl, hggt, hx, hb⟩
    have nb_ba_gt : w.heap.size < gt := Nat.lt_of_lt_of_le ba.lt hggt
    have nb_bb_gt : w.heap.size + 1 < gt := Nat.lt_of_lt_of_le bb.lt hggt
    have lo_gt : w.heap.size ≤ gt := Nat.le_trans HB.size hggt
    replace ba := ba.keep hb
    replace bb := bb.keep hb
    replace HB := andthen HB hb
    clear hb
    have ht := hx
    clear hx hggt
    go_wp2_with fail
    refine (setAll_any gt _ _ ht (by omega)).mono ?_
    rintro e w3 ⟨v, rfl, hown, hb⟩
    have hw := Own.low hown HB.size
    clear hown
    obtain ⟨A0, c0, rfl, _⟩ := Own.row hw
    replace ht := ht.keep hb
    replace ba := ba.keep hb
    replace bb := bb.keep hb
    replace HB := andthen HB hb
    clear hb
    go_wp2_with fail
    refine (copy_any gt _ _ ht).mono ?_
    rintro e w4 ⟨gc, rfl, hggc, hx, hb⟩
    have ne_gt_gc : gt < gc := Nat.lt_of_lt_of_le ht.lt hggc
    have nb_ba_gc : w.heap.size < gc := Nat.lt_of_lt_of_le ba.lt hggc
    have nb_bb_gc : w.heap.size + 1 < gc := Nat.lt_of_lt_of_le bb.lt hggc
    have lo_gc : w.heap.size ≤ gc := Nat.le_trans HB.size hggc
    replace ht := ht.keep hb
    replace hw := Own.keep hw hb
    replace ba := ba.keep hb
    replace bb := bb.keep hb
    replace HB := andthen HB hb
    clear hb
    have hc_ := hx
    clear hx hggc
    go_wp2_with fail
    refine (copy_any gc _ _ hc_).mono ?_
    rintro e w5 ⟨gd, rfl, hggd, hx, hb⟩
    have ne_gt_gd : gt < gd := Nat.lt_of_lt_of_le ht.lt hggd
    have ne_gc_gd : gc < gd := Nat.lt_of_lt_of_le hc_.lt hggd
    have nb_ba_gd : w.heap.size < gd := Nat.lt_of_lt_of_le ba.lt hggd
    have nb_bb_gd : w.heap.size + 1 < gd := Nat.lt_of_lt_of_le bb.lt hggd
    have lo_gd : w.heap.size ≤ gd := Nat.le_trans HB.size hggd
    replace ht := ht.keep hb
    replace hc_ := hc_.keep hb
    replace hw := Own.keep hw hb
    replace ba := ba.keep hb
    replace bb := bb.keep hb
    replace HB := andthen HB hb
    clear hb
    have hd_ := hx
    clear hx hggd
    have ba0 := ba.c0
    have ba1 := ba.c1
    have bb0 := bb.c0
    have bb1 := bb.c1
    go_wp2_with fail
    refine (addSet_any gc _ x1 y1 _ hc_ (by omega)).mono ?_
    rintro e w6 ⟨rfl, hx, hc⟩
    replace ht := SetAt.other ht hc_.one hc (by omega)
    replace hd_ := SetAt.other hd_ hc_.one hc (by omega)
    replace hw := Own.other hw hc_.one hc
    replace ba := Box.other ba hc (by omega)
    replace bb := Box.other bb hc (by omega)
    replace HB := hc.below HB HB.size (by omega)
    replace hc_ := hx
    clear hx hc
    clear ba0 ba1
    clear bb0 bb1
    have ba0 := ba.c0
    have ba1 := ba.c1
    have bb0 := bb.c0
    have bb1 := bb.c1
    go_wp2_with fail
    refine (cutSet_any gd _ x2 y2 _ hd_ (by omega)).mono ?_
    rintro e w7 ⟨rfl, hx, hc⟩
    replace ht := SetAt.other ht hd_.one hc (by omega)
    replace hc_ := SetAt.other hc_ hd_.one hc (by omega)
    replace hw := Own.other hw hd_.one hc
    replace ba := Box.other ba hc (by omega)
    replace bb := Box.other bb hc (by omega)
    replace HB := hc.below HB HB.size (by omega)
    replace hd_ := hx
    clear hx hc
    clear ba0 ba1
    clear bb0 bb1
    have ba0 := ba.c0
    have ba1 := ba.c1
    have bb0 := bb.c0
    have bb1 := bb.c1
    go_wp2_with fail
    refine (addSet_any gt _ x2 y2 _ ht (by omega)).mono ?_
    rintro e w8 ⟨rfl, hx, hc⟩
    replace hc_ := SetAt.other hc_ ht.one hc (by omega)
    replace hd_ := SetAt.other hd_ ht.one hc (by omega)
    replace hw := Own.other hw ht.one hc
    replace ba := Box.other ba hc (by omega)
    replace bb := Box.other bb hc (by omega)
    replace HB := hc.below HB HB.size (by omega)
    replace ht := hx
    clear hx hc
    clear ba0 ba1
    clear bb0 bb1
    go_wp2_with fail
    have hS := And.intro hc_ (And.intro hd_ (And.intro ht (And.intro ba.c0 (And.intro ba.c1 (And.intro bb.c0 (And.intro bb.c1 (And.intro hw HB)))))))
    clear hc_ hd_ ht ba bb hw HB
    refine wp_region_held_drew (S := (fun w' => SetAt w' gc (addR (canon l) (x1, y1)) ∧ SetAt w' gd (subR (canon l) (x2, y2)) ∧ SetAt w' gt (addR (canon l) (x2, y2)) ∧ w'.cell? ⟨w.heap.size, 0, none⟩ = some (.int .i64 x1) ∧ w'.cell? ⟨w.heap.size, 1, none⟩ = some (.int .i64 y1) ∧ w'.cell? ⟨w.heap.size + 1, 0, none⟩ = some (.int .i64 x2) ∧ w'.cell? ⟨w.heap.size + 1, 1, none⟩ = some (.int .i64 y2) ∧ Own w' w.heap.size (.slice A0 (canon l).length c0) (canon l) ∧ Below w.heap.size w w')) (by kernel_rfl) ?_ (fun hH0 => ?_)
    · exact copies_keep (Below.drew (start _)) hS
    refine' wpAnyH_take (i := 0) (oi := _) (v := ?v0) rfl (by as_aux_lemma => kernel_rfl) (by as_aux_lemma => kernel_rfl) (by as_aux_lemma => kernel_rfl) (fun _ _ _ h => h) (Or.inl ⟨by rfl, ?y0⟩) hH0 ?r0
    case y0 => (intro w hSw; (try dsimp only at hSw); go_simp; (try with_reducible rfl))
    try simp only [Act.put, List.getElem_toArray, List.getElem_cons_succ, List.getElem_cons_zero, List.setIfInBounds_toArray, List.set_cons_zero, List.set_cons_succ]
    refine' wpAnyH_take (i := 1) (oi := _) (v := ?v1) rfl (by as_aux_lemma => kernel_rfl) (by as_aux_lemma => kernel_rfl) (by as_aux_lemma => kernel_rfl) (fun _ _ _ h => h) (Or.inl ⟨by rfl, ?y1⟩) hH0 ?r1
    case y1 => (intro w hSw; (try dsimp only at hSw); go_simp; (try with_reducible rfl))
    try simp only [Act.put, List.getElem_toArray, List.getElem_cons_succ, List.getElem_cons_zero, List.setIfInBounds_toArray, List.set_cons_zero, List.set_cons_succ]
    refine' wpAnyH_take (i := 2) (oi := _) (v := ?v2) rfl (by as_aux_lemma => kernel_rfl) (by as_aux_lemma => kernel_rfl) (by as_aux_lemma => kernel_rfl) (fun _ _ _ h => h) (Or.inl ⟨by rfl, ?y2⟩) hH0 ?r2
    case y2 => (intro w hSw; (try dsimp only at hSw); go_simp; (try with_reducible rfl))
    try simp only [Act.put, List.getElem_toArray, List.getElem_cons_succ, List.getElem_cons_zero, List.setIfInBounds_toArray, List.set_cons_zero, List.set_cons_succ]
    refine' wpAnyH_take (i := 4) (oi := _) (v := ?v3) rfl (by as_aux_lemma => kernel_rfl) (by as_aux_lemma => kernel_rfl) (by as_aux_lemma => kernel_rfl) (fun _ _ _ h => h) (Or.inl ⟨by rfl, ?y3⟩) hH0 ?r3
    case y3 => (intro w hSw; (try dsimp only at hSw); go_simp; (try with_reducible rfl))
    try simp only [Act.put, List.getElem_toArray, List.getElem_cons_succ, List.getElem_cons_zero, List.setIfInBounds_toArray, List.set_cons_zero, List.set_cons_succ]
    refine' wpAnyH_take (i := 5) (oi := _) (v := ?v4) rfl (by as_aux_lemma => kernel_rfl) (by as_aux_lemma => kernel_rfl) (by as_aux_lemma => kernel_rfl) (fun _ _ _ h => h) (Or.inl ⟨by rfl, ?y4⟩) hH0 ?r4
    case y4 => (intro w hSw; (try dsimp only at hSw); go_simp; (try with_reducible rfl))
    try simp only [Act.put, List.getElem_toArray, List.getElem_cons_succ, List.getElem_cons_zero, List.setIfInBounds_toArray, List.set_cons_zero, List.set_cons_succ]
    refine wpAnyH_ready (rs := [3]) (by as_aux_lemma => kernel_rfl) (by simp) ?_
    refine AllReadyH.cons (o := _) rfl (fun K hK => ?_) AllReadyH.nil
    go_simp
    refine (setAll_any gc _ _ hH0.1 (by omega)).mono ?_
    rintro e w2 ⟨v1, rfl, hown1, hb⟩
    obtain ⟨A1, c1, rfl, hr1⟩ := Own.row hown1
    clear hown1
    refine hK.out _ _ (copies_keep hb hH0) (fun hN => ?_)
    clear hK K hH0
    have hH1 := hN
    clear hN
    try simp only [Act.put, List.getElem_toArray, List.getElem_cons_succ, List.getElem_cons_zero, List.setIfInBounds_toArray, List.set_cons_zero, List.set_cons_succ]
    refine wpAnyH_ready (rs := [6]) (by as_aux_lemma => kernel_rfl) (by simp) ?_
    refine AllReadyH.cons (o := _) rfl (fun K hK => ?_) AllReadyH.nil
    go_simp
    refine (R.add_any w.heap.size _ (canon l) x1 y1 _ hH1.2.2.2.2.2.2.2.1 hH1.2.2.2.2.2.2.2.2.size HNEAT.out (by omega)).mono ?_
    rintro e w2 ⟨v2, rfl, hown2, hb⟩
    obtain ⟨A2, c2, rfl, hr2⟩ := Own.row hown2
    replace hr1 := hr1.keep hb
    clear hown2
    refine hK.out _ _ (copies_keep hb hH1) (fun hN => ?_)
    clear hK K hH1
    have hH2 := hN
    clear hN
    try simp only [Act.put, List.getElem_toArray, List.getElem_cons_succ, List.getElem_cons_zero, List.setIfInBounds_toArray, List.set_cons_zero, List.set_cons_succ]
    refine wpAnyH_ready (rs := [7]) (by as_aux_lemma => kernel_rfl) (by simp) ?_
    refine AllReadyH.cons (o := _) rfl (fun K hK => ?_) AllReadyH.nil
    go_simp
    refine (R.same_self _ _ _ _ _ _ (addR (canon l) (x1, y1)) _ hr1 hr2 rfl rfl (by omega)).mono ?_
    rintro e w2 ⟨rfl, hb⟩
    clear hr1 hr2
    refine hK.out _ _ (copies_keep hb hH2) (fun hN => ?_)
    clear hK K hH2
    have hH3 := hN
    clear hN
    try simp only [Act.put, List.getElem_toArray, List.getElem_cons_succ, List.getElem_cons_zero, List.setIfInBounds_toArray, List.set_cons_zero, List.set_cons_succ]
    refine' wpAnyH_take (i := 8) (oi := _) (v := ?v5) rfl (by as_aux_lemma => kernel_rfl) (by as_aux_lemma => kernel_rfl) (by as_aux_lemma => kernel_rfl) (fun _ _ _ h => h) (Or.inl ⟨by rfl, ?y5⟩) hH3 ?r5
    case y5 => (intro w hSw; (try dsimp only at hSw); go_simp; (try with_reducible rfl))
    try simp only [Act.put, List.getElem_toArray, List.getElem_cons_succ, List.getElem_cons_zero, List.setIfInBounds_toArray, List.set_cons_zero, List.set_cons_succ]
    refine' wpAnyH_take (i := 9) (oi := _) (v := ?v6) rfl (by as_aux_lemma => kernel_rfl) (by as_aux_lemma => kernel_rfl) (by as_aux_lemma => kernel_rfl) (fun _ _ _ h => h) (Or.inl ⟨by rfl, ?y6⟩) hH3 ?r6
    case y6 => (intro w hSw; (try dsimp only at hSw); go_simp; (try with_reducible rfl))
    try simp only [Act.put, List.getElem_toArray, List.getElem_cons_succ, List.getElem_cons_zero, List.setIfInBounds_toArray, List.set_cons_zero, List.set_cons_succ]
    refine' wpAnyH_take (i := 10) (oi := _) (v := ?v7) rfl (by as_aux_lemma => kernel_rfl) (by as_aux_lemma => kernel_rfl) (by as_aux_lemma => kernel_rfl) (fun _ _ _ h => h) (Or.inl ⟨by rfl, ?y7⟩) hH3 ?r7
    case y7 => (intro w hSw; (try dsimp only at hSw); go_simp; (try with_reducible rfl))
    try simp only [Act.put, List.getElem_toArray, List.getElem_cons_succ, List.getElem_cons_zero, List.setIfInBounds_toArray, List.set_cons_zero, List.set_cons_succ]
    refine' wpAnyH_take (i := 11) (oi := _) (v := ?v8) rfl (by as_aux_lemma => kernel_rfl) (by as_aux_lemma => kernel_rfl) (by as_aux_lemma => kernel_rfl) (fun _ _ _ h => h) (Or.inl ⟨by rfl, ?y8⟩) hH3 ?r8
    case y8 => (intro w hSw; (try dsimp only at hSw); go_simp; (try with_reducible rfl))
    try simp only [Act.put, List.getElem_toArray, List.getElem_cons_succ, List.getElem_cons_zero, List.setIfInBounds_toArray, List.set_cons_zero, List.set_cons_succ]
    refine' wpAnyH_take (i := 13) (oi := _) (v := ?v9) rfl (by as_aux_lemma => kernel_rfl) (by as_aux_lemma => kernel_rfl) (by as_aux_lemma => kernel_rfl) (fun _ _ _ h => h) (Or.inl ⟨by rfl, ?y9⟩) hH3 ?r9
    case y9 => (intro w hSw; (try dsimp only at hSw); go_simp; (try with_reducible rfl))
    try simp only [Act.put, List.getElem_toArray, List.getElem_cons_succ, List.getElem_cons_zero, List.setIfInBounds_toArray, List.set_cons_zero, List.set_cons_succ]
    refine' wpAnyH_take (i := 14) (oi := _) (v := ?v10) rfl (by as_aux_lemma => kernel_rfl) (by as_aux_lemma => kernel_rfl) (by as_aux_lemma => kernel_rfl) (fun _ _ _ h => h) (Or.inl ⟨by rfl, ?y10⟩) hH3 ?r10
    case y10 => (intro w hSw; (try dsimp only at hSw); go_simp; (try with_reducible rfl))
    try simp only [Act.put, List.getElem_toArray, List.getElem_cons_succ, List.getElem_cons_zero, List.setIfInBounds_toArray, List.set_cons_zero, List.set_cons_succ]
    refine wpAnyH_ready (rs := [12]) (by as_aux_lemma => kernel_rfl) (by simp) ?_
    refine AllReadyH.cons (o := _) rfl (fun K hK => ?_) AllReadyH.nil
    go_simp
    refine (setAll_any gd _ _ hH3.2.1 (by omega)).mono ?_
    rintro e w2 ⟨v1, rfl, hown1, hb⟩
    obtain ⟨A1, c1, rfl, hr1⟩ := Own.row hown1
    clear hown1
    refine hK.out _ _ (copies_keep hb hH3) (fun hN => ?_)
    clear hK K hH3
    have hH4 := hN
    clear hN
    try simp only [Act.put, List.getElem_toArray, List.getElem_cons_succ, List.getElem_cons_zero, List.setIfInBounds_toArray, List.set_cons_zero, List.set_cons_succ]
    refine wpAnyH_ready (rs := [15]) (by as_aux_lemma => kernel_rfl) (by simp) ?_
    refine AllReadyH.cons (o := _) rfl (fun K hK => ?_) AllReadyH.nil
    go_simp
    have hr0 := own_row hH4.2.2.2.2.2.2.2.1
    refine (R.sub_any A0 _ c0 (canon l) x2 y2 _ hr0 rfl (by omega)).mono ?_
    rintro e w2 ⟨v2, rfl, hown2, hb⟩
    obtain ⟨A2, c2, rfl, hr2⟩ := Own.row hown2
    replace hr1 := hr1.keep hb
    clear hown2 hr0
    refine hK.out _ _ (copies_keep hb hH4) (fun hN => ?_)
    clear hK K hH4
    have hH5 := hN
    clear hN
    try simp only [Act.put, List.getElem_toArray, List.getElem_cons_succ, List.getElem_cons_zero, List.setIfInBounds_toArray, List.set_cons_zero, List.set_cons_succ]
    refine wpAnyH_ready (rs := [16]) (by as_aux_lemma => kernel_rfl) (by simp) ?_
    refine AllReadyH.cons (o := _) rfl (fun K hK => ?_) AllReadyH.nil
    go_simp
    refine (R.same_self _ _ _ _ _ _ (subR (canon l) (x2, y2)) _ hr1 hr2 rfl rfl (by omega)).mono ?_
    rintro e w2 ⟨rfl, hb⟩
    clear hr1 hr2
    refine hK.out _ _ (copies_keep hb hH5) (fun hN => ?_)
    clear hK K hH5
    have hH6 := hN
    clear hN
    try simp only [Act.put, List.getElem_toArray, List.getElem_cons_succ, List.getElem_cons_zero, List.setIfInBounds_toArray, List.set_cons_zero, List.set_cons_succ]
    refine' wpAnyH_take (i := 17) (oi := _) (v := ?v11) rfl (by as_aux_lemma => kernel_rfl) (by as_aux_lemma => kernel_rfl) (by as_aux_lemma => kernel_rfl) (fun _ _ _ h => h) (Or.inl ⟨by rfl, ?y11⟩) hH6 ?r11
    case y11 => (intro w hSw; (try dsimp only at hSw); go_simp; (try with_reducible rfl))
    try simp only [Act.put, List.getElem_toArray, List.getElem_cons_succ, List.getElem_cons_zero, List.setIfInBounds_toArray, List.set_cons_zero, List.set_cons_succ]
    refine' wpAnyH_take (i := 18) (oi := _) (v := ?v12) rfl (by as_aux_lemma => kernel_rfl) (by as_aux_lemma => kernel_rfl) (by as_aux_lemma => kernel_rfl) (fun _ _ _ h => h) (Or.inl ⟨by rfl, ?y12⟩) hH6 ?r12
    case y12 => (intro w hSw; (try dsimp only at hSw); go_simp; (try with_reducible rfl))
    try simp only [Act.put, List.getElem_toArray, List.getElem_cons_succ, List.getElem_cons_zero, List.setIfInBounds_toArray, List.set_cons_zero, List.set_cons_succ]
    refine' wpAnyH_take (i := 19) (oi := _) (v := ?v13) rfl (by as_aux_lemma => kernel_rfl) (by as_aux_lemma => kernel_rfl) (by as_aux_lemma => kernel_rfl) (fun _ _ _ h => h) (Or.inl ⟨by rfl, ?y13⟩) hH6 ?r13
    case y13 => (intro w hSw; (try dsimp only at hSw); go_simp; (try with_reducible rfl))
    try simp only [Act.put, List.getElem_toArray, List.getElem_cons_succ, List.getElem_cons_zero, List.setIfInBounds_toArray, List.set_cons_zero, List.set_cons_succ]
    refine' wpAnyH_take (i := 20) (oi := _) (v := ?v14) rfl (by as_aux_lemma => kernel_rfl) (by as_aux_lemma => kernel_rfl) (by as_aux_lemma => kernel_rfl) (fun _ _ _ h => h) (Or.inl ⟨by rfl, ?y14⟩) hH6 ?r14
    case y14 => (intro w hSw; (try dsimp only at hSw); go_simp; (try with_reducible rfl))
    try simp only [Act.put, List.getElem_toArray, List.getElem_cons_succ, List.getElem_cons_zero, List.setIfInBounds_toArray, List.set_cons_zero, List.set_cons_succ]
    refine' wpAnyH_take (i := 21) (oi := _) (v := ?v15) rfl (by as_aux_lemma => kernel_rfl) (by as_aux_lemma => kernel_rfl) (by as_aux_lemma => kernel_rfl) (fun _ _ _ h => h) (Or.inl ⟨by rfl, ?y15⟩) hH6 ?r15
    case y15 => (intro w hSw; (try dsimp only at hSw); go_simp; (try with_reducible rfl))
    try simp only [Act.put, List.getElem_toArray, List.getElem_cons_succ, List.getElem_cons_zero, List.setIfInBounds_toArray, List.set_cons_zero, List.set_cons_succ]
    refine' wpAnyH_take (i := 23) (oi := _) (v := ?v16) rfl (by as_aux_lemma => kernel_rfl) (by as_aux_lemma => kernel_rfl) (by as_aux_lemma => kernel_rfl) (fun _ _ _ h => h) (Or.inl ⟨by rfl, ?y16⟩) hH6 ?r16
    case y16 => (intro w hSw; (try dsimp only at hSw); go_simp; (try with_reducible rfl))
    try simp only [Act.put, List.getElem_toArray, List.getElem_cons_succ, List.getElem_cons_zero, List.setIfInBounds_toArray, List.set_cons_zero, List.set_cons_succ]
    refine' wpAnyH_take (i := 24) (oi := _) (v := ?v17) rfl (by as_aux_lemma => kernel_rfl) (by as_aux_lemma => kernel_rfl) (by as_aux_lemma => kernel_rfl) (fun _ _ _ h => h) (Or.inl ⟨by rfl, ?y17⟩) hH6 ?r17
    case y17 => (intro w hSw; (try dsimp only at hSw); go_simp; (try with_reducible rfl))
    try simp only [Act.put, List.getElem_toArray, List.getElem_cons_succ, List.getElem_cons_zero, List.setIfInBounds_toArray, List.set_cons_zero, List.set_cons_succ]
    refine wpAnyH_ready (rs := [22]) (by as_aux_lemma => kernel_rfl) (by simp) ?_
    refine AllReadyH.cons (o := _) rfl (fun K hK => ?_) AllReadyH.nil
    go_simp
    refine (setAll_any gt _ _ hH6.2.2.1 (by omega)).mono ?_
    rintro e w2 ⟨v1, rfl, hown1, hb⟩
    obtain ⟨A1, c1, rfl, hr1⟩ := Own.row hown1
    clear hown1
    refine hK.out _ _ (copies_keep hb hH6) (fun hN => ?_)
    clear hK K hH6
    have hH7 := hN
    clear hN
    try simp only [Act.put, List.getElem_toArray, List.getElem_cons_succ, List.getElem_cons_zero, List.setIfInBounds_toArray, List.set_cons_zero, List.set_cons_succ]
    refine wpAnyH_ready (rs := [25]) (by as_aux_lemma => kernel_rfl) (by simp) ?_
    refine AllReadyH.cons (o := _) rfl (fun K hK => ?_) AllReadyH.nil
    go_simp
    refine (R.add_any w.heap.size _ (canon l) x2 y2 _ hH7.2.2.2.2.2.2.2.1 hH7.2.2.2.2.2.2.2.2.size HNEAT.out (by omega)).mono ?_
    rintro e w2 ⟨v2, rfl, hown2, hb⟩
    obtain ⟨A2, c2, rfl, hr2⟩ := Own.row hown2
    replace hr1 := hr1.keep hb
    clear hown2
    refine hK.out _ _ (copies_keep hb hH7) (fun hN => ?_)
    clear hK K hH7
    have hH8 := hN
    clear hN
    try simp only [Act.put, List.getElem_toArray, List.getElem_cons_succ, List.getElem_cons_zero, List.setIfInBounds_toArray, List.set_cons_zero, List.set_cons_succ]
    refine wpAnyH_ready (rs := [26]) (by as_aux_lemma => kernel_rfl) (by simp) ?_
    refine AllReadyH.cons (o := _) rfl (fun K hK => ?_) AllReadyH.nil
    go_simp
    refine (R.same_self _ _ _ _ _ _ (addR (canon l) (x2, y2)) _ hr1 hr2 rfl rfl (by omega)).mono ?_
    rintro e w2 ⟨rfl, hb⟩
    clear hr1 hr2
    refine hK.out _ _ (copies_keep hb hH8) (fun hN => ?_)
    clear hK K hH8
    have hH9 := hN
    clear hN
    try simp only [Act.put, List.getElem_toArray, List.getElem_cons_succ, List.getElem_cons_zero, List.setIfInBounds_toArray, List.set_cons_zero, List.set_cons_succ]
    refine' wpAnyH_take (i := 27) (oi := _) (v := ?v18) rfl (by as_aux_lemma => kernel_rfl) (by as_aux_lemma => kernel_rfl) (by as_aux_lemma => kernel_rfl) (fun _ _ _ h => h) (Or.inl ⟨by rfl, ?y18⟩) hH9 ?r18
    case y18 => (intro w hSw; (try dsimp only at hSw); go_simp; (try with_reducible rfl))
    try simp only [Act.put, List.getElem_toArray, List.getElem_cons_succ, List.getElem_cons_zero, List.setIfInBounds_toArray, List.set_cons_zero, List.set_cons_succ]
    refine' wpAnyH_take (i := 28) (oi := _) (v := ?v19) rfl (by as_aux_lemma => kernel_rfl) (by as_aux_lemma => kernel_rfl) (by as_aux_lemma => kernel_rfl) (fun _ _ _ h => h) (Or.inl ⟨by rfl, ?y19⟩) hH9 ?r19
    case y19 => (intro w hSw; (try dsimp only at hSw); go_simp; (try with_reducible rfl))
    try simp only [Act.put, List.getElem_toArray, List.getElem_cons_succ, List.getElem_cons_zero, List.setIfInBounds_toArray, List.set_cons_zero, List.set_cons_succ]
    refine wpAnyH_done (by as_aux_lemma => kernel_rfl) ?_ _
    have hbel := hH9.2.2.2.2.2.2.2.2
    go_wp2_with fail
    go_ret
    exact ⟨rfl, hbel⟩
end Go.Proofs.Ytkjkegjekfebpaa

/- CivilTells walked: the case named below. -/
import Derived.Test.YtbohogaopfkmlaaDoorCivTellsA
namespace Go.Proofs.YtbohogaopfkmlaaDoor
open Go.RowKit

set_option linter.unusedSimpArgs false in
set_option maxRecDepth 100000 in
set_option maxHeartbeats 4000000 in
theorem tells_h (y m d n h i x : Int) (a c : Int) (Y M D C : Int) (a' c' : Int) (w : World) (ht : Tab w) (hn : I64 n) (x1 : 52596000 ≤ x)
    (q1 : numE y m d = (a, c)) (q2 : dateQ n = (Y, M, D, C)) (q3 : minE y m d h i = (a', c')) :
    Calls Tryd.prog 3 #[.agg #[.int .i64 y, .int .i64 m, .int .i64 d], .int .i64 n, .int .i64 h, .int .i64 i, .int .i64 x] w fun e w' => e = .returned (.bool true) ∧ Below w.heap.size w w' := by
  have x0 : 0 ≤ x := by omega
  have HT := hide ht
  have HI := hide hn
  have Q1 := hide q1
  have Q2 := hide q2
  have Q3 := hide q3
  clear ht hn q1 q2 q3
  go_enter Tryd.func3, Tryd.ntmps3
  go_wp2_with fail
  refine (known_any _ (HT.out.alloc _)).mono ?_
  rintro e w1 ⟨rfl, hb1⟩
  have KT := hide ((HT.out.alloc _).below hb1 (Nat.le_refl _))
  have KD := hide ((Cells3.new w y m d 23).below hb1)
  have d0 := KD.out.c0
  have d1 := KD.out.c1
  have d2 := KD.out.c2
  go_wp2_with fail
  refine (number_is y m d a c _ Q1.out).mono ?_
  rintro e w2 ⟨rfl, hb2⟩
  clear d0 d1 d2
  have KD2 := hide (KD.out.below hb2)
  have d0 := KD2.out.c0
  have d1 := KD2.out.c1
  have d2 := KD2.out.c2
  go_wp2_with fail
  refine (rnumber_is y m d a c _ Q1.out).mono ?_
  rintro e w3 ⟨rfl, hb3⟩
  clear d0 d1 d2
  have KD3 := hide (KD2.out.below hb3)
  go_wp2_with fail
  refine (Date_q n Y M D C _ Q2.out).mono ?_
  rintro e w4 ⟨rfl, hb4⟩
  have KD4 := hide ((KD3.out.below hb4).alloc (.cells #[.int .i64 Y, .int .i64 M, .int .i64 D] 23))
  have KX4 := hide (Cells3.new w4 Y M D 23)
  go_wp2_with fail
  refine (rDate_q n Y M D C _ Q2.out).mono ?_
  rintro e w5 ⟨rfl, hb5⟩
  have KD5 := hide ((KD4.out.below hb5).alloc (.cells #[.int .i64 Y, .int .i64 M, .int .i64 D] 23))
  have KX5 := hide ((KX4.out.below hb5).alloc (.cells #[.int .i64 Y, .int .i64 M, .int .i64 D] 23))
  have KY5 := hide (Cells3.new w5 Y M D 23)
  have d0 := KD5.out.c0
  have d1 := KD5.out.c1
  have d2 := KD5.out.c2
  go_wp2_with fail
  refine (tMinute y m d h i a' c' _ Q3.out).mono ?_
  rintro e w6 ⟨rfl, hb6⟩
  clear d0 d1 d2
  have KD6 := hide (KD5.out.below hb6)
  have d0 := KD6.out.c0
  have d1 := KD6.out.c1
  have d2 := KD6.out.c2
  go_wp2_with fail
  refine (trMinute y m d h i a' c' _ Q3.out).mono ?_
  rintro e w7 ⟨rfl, hb7⟩
  clear d0 d1 d2
  go_wp2_with fail
  refine (Clock_no x _ (.inr x1)).mono ?_
  rintro e w8 ⟨rfl, hb8⟩
  go_wp2_with fail
  have KC8 := hide ((Cells3.new w8 0 0 0 23).alloc (.cells #[.int .i64 0, .int .i64 0, .int .i64 0] 23))
  have KW8 : Hid (Cells3 ((w8.alloc (.cells #[.int .i64 0, .int .i64 0, .int .i64 0] 23)).alloc (.cells #[.int .i64 0, .int .i64 0, .int .i64 0] 23)) (w8.heap.size + 1) 0 0 0) := by
    show Cells3 _ _ _ _ _
    have := Cells3.new (w8.alloc (.cells #[.int .i64 0, .int .i64 0, .int .i64 0] 23)) 0 0 0 23
    simpa using this
  have s1 := hb1.size
  have s2 := hb2.size
  have s3 := hb3.size
  have s4 := hb4.size
  have s5 : w4.heap.size < w5.heap.size := by have := hb5.size; simp at this; omega
  have s6 : w5.heap.size < w6.heap.size := by have := hb6.size; simp at this; omega
  have s7 := hb7.size
  have s8 := hb8.size
  simp at s1
  have KT8 := hide (((((((((KT.out.below hb2 (Nat.le_refl _)).below hb3 (Nat.le_refl _)).below hb4 (Nat.le_refl _)).alloc _).below hb5 (Nat.le_refl _)).alloc _).below hb6 (Nat.le_refl _)).below hb7 (Nat.le_refl _)).below hb8 (Nat.le_refl _))
  have KT10 := hide ((KT8.out.alloc (.cells #[.int .i64 0, .int .i64 0, .int .i64 0] 23)).alloc (.cells #[.int .i64 0, .int .i64 0, .int .i64 0] 23))
  have KD10 := hide ((((KD6.out.below hb7).below hb8).alloc (.cells #[.int .i64 0, .int .i64 0, .int .i64 0] 23)).alloc (.cells #[.int .i64 0, .int .i64 0, .int .i64 0] 23))
  have KX10 := hide (((((KX5.out.below hb6).below hb7).below hb8).alloc (.cells #[.int .i64 0, .int .i64 0, .int .i64 0] 23)).alloc (.cells #[.int .i64 0, .int .i64 0, .int .i64 0] 23))
  have KY10 := hide (((((KY5.out.below hb6).below hb7).below hb8).alloc (.cells #[.int .i64 0, .int .i64 0, .int .i64 0] 23)).alloc (.cells #[.int .i64 0, .int .i64 0, .int .i64 0] 23))
  have KC10 := KC8
  have KW10 := KW8
  have KB10 : Hid (Below w.heap.size w ((w8.alloc (.cells #[.int .i64 0, .int .i64 0, .int .i64 0] 23)).alloc (.cells #[.int .i64 0, .int .i64 0, .int .i64 0] 23))) := by
    show Below _ _ _
    have p1 : Below w.heap.size w w1 := ((Below.refl _ _).alloc (Nat.le_refl _) _).trans (hb1.mono (by simp))
    have p4 : Below w.heap.size w w4 := ((p1.trans (hb2.mono (by omega))).trans (hb3.mono (by omega))).trans (hb4.mono (by omega))
    have p5 : Below w.heap.size w w5 := (p4.alloc (by omega) _).trans (hb5.mono (by simp; omega))
    have p6 : Below w.heap.size w w6 := (p5.alloc (by omega) _).trans (hb6.mono (by simp; omega))
    have p8 : Below w.heap.size w w8 := (p6.trans (hb7.mono (by omega))).trans (hb8.mono (by omega))
    exact (p8.alloc (by omega) _).alloc (by simp; omega) _
  clear KD KD2 KD3 KD4 KX4 KD5 KX5 KY5 KD6 KC8 KW8 KT KT8 HT
  generalize ((w8.alloc (.cells #[.int .i64 0, .int .i64 0, .int .i64 0] 23)).alloc (.cells #[.int .i64 0, .int .i64 0, .int .i64 0] 23)) = W at *
  clear hb1 hb2 hb3 hb4 hb5 hb6 hb7 hb8 s1 s2 s3 s4 s5 s6 s7 s8
  have hI := HI.out
  generalize hB4 : w8.heap.size + 1 = b4 at *
  generalize w8.heap.size = b3 at *
  generalize w5.heap.size = b2 at *
  generalize w4.heap.size = b1 at *
  generalize hB0 : w.heap.size = b0 at *
  have HB0 := hide hB0
  clear hB4 hB0
  have hS : W.cell? ⟨b0, 0, none⟩ = some (.int .i64 y) ∧ W.cell? ⟨b0, 1, none⟩ = some (.int .i64 m) ∧ W.cell? ⟨b0, 2, none⟩ = some (.int .i64 d) ∧ W.cell? ⟨b1, 0, none⟩ = some (.int .i64 Y) ∧ W.cell? ⟨b1, 1, none⟩ = some (.int .i64 M) ∧ W.cell? ⟨b1, 2, none⟩ = some (.int .i64 D) ∧ W.cell? ⟨b2, 0, none⟩ = some (.int .i64 Y) ∧ W.cell? ⟨b2, 1, none⟩ = some (.int .i64 M) ∧ W.cell? ⟨b2, 2, none⟩ = some (.int .i64 D) ∧ W.cell? ⟨b3, 0, none⟩ = some (.int .i64 0) ∧ W.cell? ⟨b3, 1, none⟩ = some (.int .i64 0) ∧ W.cell? ⟨b3, 2, none⟩ = some (.int .i64 0) ∧ W.cell? ⟨b4, 0, none⟩ = some (.int .i64 0) ∧ W.cell? ⟨b4, 1, none⟩ = some (.int .i64 0) ∧ W.cell? ⟨b4, 2, none⟩ = some (.int .i64 0) ∧ Tab W ∧ b0 < W.heap.size ∧ b1 < W.heap.size ∧ b2 < W.heap.size ∧ b3 < W.heap.size ∧ b4 < W.heap.size ∧ Below b0 w W :=
    ⟨KD10.out.c0, KD10.out.c1, KD10.out.c2, KX10.out.c0, KX10.out.c1, KX10.out.c2, KY10.out.c0, KY10.out.c1, KY10.out.c2, KC10.out.c0, KC10.out.c1, KC10.out.c2, KW10.out.c0, KW10.out.c1, KW10.out.c2, KT10.out, KD10.out.lt, KX10.out.lt, KY10.out.lt, KC10.out.lt, KW10.out.lt, KB10.out⟩
  have HS := hide hS
  clear hS KD10 KX10 KY10 KC10 KW10 KT10 KB10
  try simp only [List.append]
  generalize Value.tuple #[Value.int IntKind.i64 a, Value.int IntKind.i64 c] = t1
  generalize Value.tuple #[Value.agg #[Value.int IntKind.i64 Y, Value.int IntKind.i64 M, Value.int IntKind.i64 D], Value.int IntKind.i64 C] = t2
  generalize Value.tuple #[Value.int IntKind.i64 a', Value.int IntKind.i64 c'] = t3
  generalize Value.agg #[Value.int IntKind.i64 y, Value.int IntKind.i64 m, Value.int IntKind.i64 d] = g1
  generalize Value.agg #[Value.int IntKind.i64 Y, Value.int IntKind.i64 M, Value.int IntKind.i64 D] = g2
  refine wp_region_held_drew (S := (fun W' => W'.cell? ⟨b0, 0, none⟩ = some (.int .i64 y) ∧ W'.cell? ⟨b0, 1, none⟩ = some (.int .i64 m) ∧ W'.cell? ⟨b0, 2, none⟩ = some (.int .i64 d) ∧ W'.cell? ⟨b1, 0, none⟩ = some (.int .i64 Y) ∧ W'.cell? ⟨b1, 1, none⟩ = some (.int .i64 M) ∧ W'.cell? ⟨b1, 2, none⟩ = some (.int .i64 D) ∧ W'.cell? ⟨b2, 0, none⟩ = some (.int .i64 Y) ∧ W'.cell? ⟨b2, 1, none⟩ = some (.int .i64 M) ∧ W'.cell? ⟨b2, 2, none⟩ = some (.int .i64 D) ∧ W'.cell? ⟨b3, 0, none⟩ = some (.int .i64 0) ∧ W'.cell? ⟨b3, 1, none⟩ = some (.int .i64 0) ∧ W'.cell? ⟨b3, 2, none⟩ = some (.int .i64 0) ∧ W'.cell? ⟨b4, 0, none⟩ = some (.int .i64 0) ∧ W'.cell? ⟨b4, 1, none⟩ = some (.int .i64 0) ∧ W'.cell? ⟨b4, 2, none⟩ = some (.int .i64 0) ∧ Tab W' ∧ b0 < W'.heap.size ∧ b1 < W'.heap.size ∧ b2 < W'.heap.size ∧ b3 < W'.heap.size ∧ b4 < W'.heap.size ∧ Below b0 w W')) (by kernel_rfl) ?_ (fun hH0 => ?_)
  · exact ⟨by simpa using HS.out.1, by simpa using HS.out.2.1, by simpa using HS.out.2.2.1, by simpa using HS.out.2.2.2.1, by simpa using HS.out.2.2.2.2.1, by simpa using HS.out.2.2.2.2.2.1, by simpa using HS.out.2.2.2.2.2.2.1, by simpa using HS.out.2.2.2.2.2.2.2.1, by simpa using HS.out.2.2.2.2.2.2.2.2.1, by simpa using HS.out.2.2.2.2.2.2.2.2.2.1, by simpa using HS.out.2.2.2.2.2.2.2.2.2.2.1, by simpa using HS.out.2.2.2.2.2.2.2.2.2.2.2.1, by simpa using HS.out.2.2.2.2.2.2.2.2.2.2.2.2.1, by simpa using HS.out.2.2.2.2.2.2.2.2.2.2.2.2.2.1, by simpa using HS.out.2.2.2.2.2.2.2.2.2.2.2.2.2.2.1, HS.out.2.2.2.2.2.2.2.2.2.2.2.2.2.2.2.1.drew, by simpa using HS.out.2.2.2.2.2.2.2.2.2.2.2.2.2.2.2.2.1, by simpa using HS.out.2.2.2.2.2.2.2.2.2.2.2.2.2.2.2.2.2.1, by simpa using HS.out.2.2.2.2.2.2.2.2.2.2.2.2.2.2.2.2.2.2.1, by simpa using HS.out.2.2.2.2.2.2.2.2.2.2.2.2.2.2.2.2.2.2.2.1, by simpa using HS.out.2.2.2.2.2.2.2.2.2.2.2.2.2.2.2.2.2.2.2.2.1, HS.out.2.2.2.2.2.2.2.2.2.2.2.2.2.2.2.2.2.2.2.2.2.drew⟩
  refine' wpAnyH_take (i := 0) (oi := _) (v := ?v0) rfl (by as_aux_lemma => kernel_rfl) (by as_aux_lemma => kernel_rfl) (by as_aux_lemma => kernel_rfl) (fun _ _ _ h => h) (Or.inl ⟨by rfl, ?y0⟩) hH0 ?r0
  case y0 => (intro w hSw; (try dsimp only at hSw); go_simp; (try with_reducible rfl))
  try simp only [Act.put, List.getElem_toArray, List.getElem_cons_succ, List.getElem_cons_zero, List.setIfInBounds_toArray, List.set_cons_zero, List.set_cons_succ]
  refine' wpAnyH_take (i := 1) (oi := _) (v := ?v1) rfl (by as_aux_lemma => kernel_rfl) (by as_aux_lemma => kernel_rfl) (by as_aux_lemma => kernel_rfl) (fun _ _ _ h => h) (Or.inl ⟨by rfl, ?y1⟩) hH0 ?r1
  case y1 => (intro w hSw; (try dsimp only at hSw); go_simp; (try with_reducible rfl))
  try simp only [Act.put, List.getElem_toArray, List.getElem_cons_succ, List.getElem_cons_zero, List.setIfInBounds_toArray, List.set_cons_zero, List.set_cons_succ]
  refine' wpAnyH_take (i := 2) (oi := _) (v := ?v2) rfl (by as_aux_lemma => kernel_rfl) (by as_aux_lemma => kernel_rfl) (by as_aux_lemma => kernel_rfl) (fun _ _ _ h => h) (Or.inl ⟨by rfl, ?y2⟩) hH0 ?r2
  case y2 => (intro w hSw; (try dsimp only at hSw); go_simp; (try with_reducible rfl))
  try simp only [Act.put, List.getElem_toArray, List.getElem_cons_succ, List.getElem_cons_zero, List.setIfInBounds_toArray, List.set_cons_zero, List.set_cons_succ]
  refine' wpAnyH_take (i := 3) (oi := _) (v := ?v3) rfl (by as_aux_lemma => kernel_rfl) (by as_aux_lemma => kernel_rfl) (by as_aux_lemma => kernel_rfl) (fun _ _ _ h => h) (Or.inl ⟨by rfl, ?y3⟩) hH0 ?r3
  case y3 => (intro w hSw; (try dsimp only at hSw); go_simp; (try with_reducible rfl))
  try simp only [Act.put, List.getElem_toArray, List.getElem_cons_succ, List.getElem_cons_zero, List.setIfInBounds_toArray, List.set_cons_zero, List.set_cons_succ]
  refine' wpAnyH_take (i := 4) (oi := _) (v := ?v4) rfl (by as_aux_lemma => kernel_rfl) (by as_aux_lemma => kernel_rfl) (by as_aux_lemma => kernel_rfl) (fun _ _ _ h => h) (Or.inl ⟨by rfl, ?y4⟩) hH0 ?r4
  case y4 => (intro w hSw; (try dsimp only at hSw); go_simp; (try with_reducible rfl))
  try simp only [Act.put, List.getElem_toArray, List.getElem_cons_succ, List.getElem_cons_zero, List.setIfInBounds_toArray, List.set_cons_zero, List.set_cons_succ]
  refine' wpAnyH_take (i := 5) (oi := _) (v := ?v5) rfl (by as_aux_lemma => kernel_rfl) (by as_aux_lemma => kernel_rfl) (by as_aux_lemma => kernel_rfl) (fun _ _ _ h => h) (Or.inl ⟨by rfl, ?y5⟩) hH0 ?r5
  case y5 => (intro w hSw; (try dsimp only at hSw); go_simp; (try with_reducible rfl))
  try simp only [Act.put, List.getElem_toArray, List.getElem_cons_succ, List.getElem_cons_zero, List.setIfInBounds_toArray, List.set_cons_zero, List.set_cons_succ]
  refine' wpAnyH_take (i := 6) (oi := _) (v := ?v6) rfl (by as_aux_lemma => kernel_rfl) (by as_aux_lemma => kernel_rfl) (by as_aux_lemma => kernel_rfl) (fun _ _ _ h => h) (Or.inl ⟨by rfl, ?y6⟩) hH0 ?r6
  case y6 => (intro w hSw; (try dsimp only at hSw); go_simp; (try with_reducible rfl))
  try simp only [Act.put, List.getElem_toArray, List.getElem_cons_succ, List.getElem_cons_zero, List.setIfInBounds_toArray, List.set_cons_zero, List.set_cons_succ]
  refine' wpAnyH_take (i := 7) (oi := _) (v := ?v7) rfl (by as_aux_lemma => kernel_rfl) (by as_aux_lemma => kernel_rfl) (by as_aux_lemma => kernel_rfl) (fun _ _ _ h => h) (Or.inl ⟨by rfl, ?y7⟩) hH0 ?r7
  case y7 => (intro w hSw; (try dsimp only at hSw); go_simp; (try with_reducible rfl))
  try simp only [Act.put, List.getElem_toArray, List.getElem_cons_succ, List.getElem_cons_zero, List.setIfInBounds_toArray, List.set_cons_zero, List.set_cons_succ]
  refine' wpAnyH_take (i := 8) (oi := _) (v := ?v8) rfl (by as_aux_lemma => kernel_rfl) (by as_aux_lemma => kernel_rfl) (by as_aux_lemma => kernel_rfl) (fun _ _ _ h => h) (Or.inl ⟨by rfl, ?y8⟩) hH0 ?r8
  case y8 => (intro w hSw; (try dsimp only at hSw); go_simp; (try with_reducible rfl))
  try simp only [Act.put, List.getElem_toArray, List.getElem_cons_succ, List.getElem_cons_zero, List.setIfInBounds_toArray, List.set_cons_zero, List.set_cons_succ]
  refine' wpAnyH_take (i := 9) (oi := _) (v := ?v9) rfl (by as_aux_lemma => kernel_rfl) (by as_aux_lemma => kernel_rfl) (by as_aux_lemma => kernel_rfl) (fun _ _ _ h => h) (Or.inl ⟨by rfl, ?y9⟩) hH0 ?r9
  case y9 => (intro w hSw; (try dsimp only at hSw); go_simp; (try with_reducible rfl))
  try simp only [Act.put, List.getElem_toArray, List.getElem_cons_succ, List.getElem_cons_zero, List.setIfInBounds_toArray, List.set_cons_zero, List.set_cons_succ]
  refine' wpAnyH_take (i := 10) (oi := _) (v := ?v10) rfl (by as_aux_lemma => kernel_rfl) (by as_aux_lemma => kernel_rfl) (by as_aux_lemma => kernel_rfl) (fun _ _ _ h => h) (Or.inl ⟨by rfl, ?y10⟩) hH0 ?r10
  case y10 => (intro w hSw; (try dsimp only at hSw); go_simp; (try with_reducible rfl))
  try simp only [Act.put, List.getElem_toArray, List.getElem_cons_succ, List.getElem_cons_zero, List.setIfInBounds_toArray, List.set_cons_zero, List.set_cons_succ]
  refine' wpAnyH_take (i := 11) (oi := _) (v := ?v11) rfl (by as_aux_lemma => kernel_rfl) (by as_aux_lemma => kernel_rfl) (by as_aux_lemma => kernel_rfl) (fun _ _ _ h => h) (Or.inl ⟨by rfl, ?y11⟩) hH0 ?r11
  case y11 => (intro w hSw; (try dsimp only at hSw); go_simp; (try with_reducible rfl))
  try simp only [Act.put, List.getElem_toArray, List.getElem_cons_succ, List.getElem_cons_zero, List.setIfInBounds_toArray, List.set_cons_zero, List.set_cons_succ]
  refine' wpAnyH_take (i := 12) (oi := _) (v := ?v12) rfl (by as_aux_lemma => kernel_rfl) (by as_aux_lemma => kernel_rfl) (by as_aux_lemma => kernel_rfl) (fun _ _ _ h => h) (Or.inl ⟨by rfl, ?y12⟩) hH0 ?r12
  case y12 => (intro w hSw; (try dsimp only at hSw); go_simp; (try with_reducible rfl))
  try simp only [Act.put, List.getElem_toArray, List.getElem_cons_succ, List.getElem_cons_zero, List.setIfInBounds_toArray, List.set_cons_zero, List.set_cons_succ]
  refine' wpAnyH_take (i := 13) (oi := _) (v := ?v13) rfl (by as_aux_lemma => kernel_rfl) (by as_aux_lemma => kernel_rfl) (by as_aux_lemma => kernel_rfl) (fun _ _ _ h => h) (Or.inl ⟨by rfl, ?y13⟩) hH0 ?r13
  case y13 => (intro w hSw; (try dsimp only at hSw); go_simp; (try with_reducible rfl))
  try simp only [Act.put, List.getElem_toArray, List.getElem_cons_succ, List.getElem_cons_zero, List.setIfInBounds_toArray, List.set_cons_zero, List.set_cons_succ]
  refine' wpAnyH_take (i := 14) (oi := _) (v := ?v14) rfl (by as_aux_lemma => kernel_rfl) (by as_aux_lemma => kernel_rfl) (by as_aux_lemma => kernel_rfl) (fun _ _ _ h => h) (Or.inl ⟨by rfl, ?y14⟩) hH0 ?r14
  case y14 => (intro w hSw; (try dsimp only at hSw); go_simp; (try with_reducible rfl))
  try simp only [Act.put, List.getElem_toArray, List.getElem_cons_succ, List.getElem_cons_zero, List.setIfInBounds_toArray, List.set_cons_zero, List.set_cons_succ]
  refine' wpAnyH_take (i := 15) (oi := _) (v := ?v15) rfl (by as_aux_lemma => kernel_rfl) (by as_aux_lemma => kernel_rfl) (by as_aux_lemma => kernel_rfl) (fun _ _ _ h => h) (Or.inl ⟨by rfl, ?y15⟩) hH0 ?r15
  case y15 => (intro w hSw; (try dsimp only at hSw); go_simp; (try with_reducible rfl))
  try simp only [Act.put, List.getElem_toArray, List.getElem_cons_succ, List.getElem_cons_zero, List.setIfInBounds_toArray, List.set_cons_zero, List.set_cons_succ]
  refine' wpAnyH_take (i := 16) (oi := _) (v := ?v16) rfl (by as_aux_lemma => kernel_rfl) (by as_aux_lemma => kernel_rfl) (by as_aux_lemma => kernel_rfl) (fun _ _ _ h => h) (Or.inl ⟨by rfl, ?y16⟩) hH0 ?r16
  case y16 => (intro w hSw; (try dsimp only at hSw); go_simp; (try with_reducible rfl))
  try simp only [Act.put, List.getElem_toArray, List.getElem_cons_succ, List.getElem_cons_zero, List.setIfInBounds_toArray, List.set_cons_zero, List.set_cons_succ]
  refine' wpAnyH_take (i := 17) (oi := _) (v := ?v17) rfl (by as_aux_lemma => kernel_rfl) (by as_aux_lemma => kernel_rfl) (by as_aux_lemma => kernel_rfl) (fun _ _ _ h => h) (Or.inl ⟨by rfl, ?y17⟩) hH0 ?r17
  case y17 => (intro w hSw; (try dsimp only at hSw); go_simp; (try with_reducible rfl))
  try simp only [Act.put, List.getElem_toArray, List.getElem_cons_succ, List.getElem_cons_zero, List.setIfInBounds_toArray, List.set_cons_zero, List.set_cons_succ]
  refine' wpAnyH_take (i := 18) (oi := _) (v := ?v18) rfl (by as_aux_lemma => kernel_rfl) (by as_aux_lemma => kernel_rfl) (by as_aux_lemma => kernel_rfl) (fun _ _ _ h => h) (Or.inl ⟨by rfl, ?y18⟩) hH0 ?r18
  case y18 => (intro w hSw; (try dsimp only at hSw); go_simp; (try with_reducible rfl))
  try simp only [Act.put, List.getElem_toArray, List.getElem_cons_succ, List.getElem_cons_zero, List.setIfInBounds_toArray, List.set_cons_zero, List.set_cons_succ]
  refine' wpAnyH_take (i := 19) (oi := _) (v := ?v19) rfl (by as_aux_lemma => kernel_rfl) (by as_aux_lemma => kernel_rfl) (by as_aux_lemma => kernel_rfl) (fun _ _ _ h => h) (Or.inl ⟨by rfl, ?y19⟩) hH0 ?r19
  case y19 => (intro w hSw; (try dsimp only at hSw); go_simp; (try with_reducible rfl))
  try simp only [Act.put, List.getElem_toArray, List.getElem_cons_succ, List.getElem_cons_zero, List.setIfInBounds_toArray, List.set_cons_zero, List.set_cons_succ]
  refine' wpAnyH_take (i := 20) (oi := _) (v := ?v20) rfl (by as_aux_lemma => kernel_rfl) (by as_aux_lemma => kernel_rfl) (by as_aux_lemma => kernel_rfl) (fun _ _ _ h => h) (Or.inl ⟨by rfl, ?y20⟩) hH0 ?r20
  case y20 => (intro w hSw; (try dsimp only at hSw); go_simp; (try with_reducible rfl))
  try simp only [Act.put, List.getElem_toArray, List.getElem_cons_succ, List.getElem_cons_zero, List.setIfInBounds_toArray, List.set_cons_zero, List.set_cons_succ]
  refine' wpAnyH_take (i := 21) (oi := _) (v := ?v21) rfl (by as_aux_lemma => kernel_rfl) (by as_aux_lemma => kernel_rfl) (by as_aux_lemma => kernel_rfl) (fun _ _ _ h => h) (Or.inl ⟨by rfl, ?y21⟩) hH0 ?r21
  case y21 => (intro w hSw; (try dsimp only at hSw); go_simp; (try with_reducible rfl))
  try simp only [Act.put, List.getElem_toArray, List.getElem_cons_succ, List.getElem_cons_zero, List.setIfInBounds_toArray, List.set_cons_zero, List.set_cons_succ]
  refine' wpAnyH_take (i := 22) (oi := _) (v := ?v22) rfl (by as_aux_lemma => kernel_rfl) (by as_aux_lemma => kernel_rfl) (by as_aux_lemma => kernel_rfl) (fun _ _ _ h => h) (Or.inl ⟨by rfl, ?y22⟩) hH0 ?r22
  case y22 => (intro w hSw; (try dsimp only at hSw); go_simp; (try with_reducible rfl))
  try simp only [Act.put, List.getElem_toArray, List.getElem_cons_succ, List.getElem_cons_zero, List.setIfInBounds_toArray, List.set_cons_zero, List.set_cons_succ]
  refine' wpAnyH_take (i := 23) (oi := _) (v := ?v23) rfl (by as_aux_lemma => kernel_rfl) (by as_aux_lemma => kernel_rfl) (by as_aux_lemma => kernel_rfl) (fun _ _ _ h => h) (Or.inl ⟨by rfl, ?y23⟩) hH0 ?r23
  case y23 => (intro w hSw; (try dsimp only at hSw); go_simp; (try with_reducible rfl))
  try simp only [Act.put, List.getElem_toArray, List.getElem_cons_succ, List.getElem_cons_zero, List.setIfInBounds_toArray, List.set_cons_zero, List.set_cons_succ]
  refine' wpAnyH_take (i := 24) (oi := _) (v := ?v24) rfl (by as_aux_lemma => kernel_rfl) (by as_aux_lemma => kernel_rfl) (by as_aux_lemma => kernel_rfl) (fun _ _ _ h => h) (Or.inl ⟨by rfl, ?y24⟩) hH0 ?r24
  case y24 => (intro w hSw; (try dsimp only at hSw); go_simp; (try with_reducible rfl))
  try simp only [Act.put, List.getElem_toArray, List.getElem_cons_succ, List.getElem_cons_zero, List.setIfInBounds_toArray, List.set_cons_zero, List.set_cons_succ]
  refine' wpAnyH_take (i := 25) (oi := _) (v := ?v25) rfl (by as_aux_lemma => kernel_rfl) (by as_aux_lemma => kernel_rfl) (by as_aux_lemma => kernel_rfl) (fun _ _ _ h => h) (Or.inl ⟨by rfl, ?y25⟩) hH0 ?r25
  case y25 => (intro w hSw; (try dsimp only at hSw); go_simp; (try with_reducible rfl))
  try simp only [Act.put, List.getElem_toArray, List.getElem_cons_succ, List.getElem_cons_zero, List.setIfInBounds_toArray, List.set_cons_zero, List.set_cons_succ]
  refine' wpAnyH_take (i := 26) (oi := _) (v := ?v26) rfl (by as_aux_lemma => kernel_rfl) (by as_aux_lemma => kernel_rfl) (by as_aux_lemma => kernel_rfl) (fun _ _ _ h => h) (Or.inl ⟨by rfl, ?y26⟩) hH0 ?r26
  case y26 => (intro w hSw; (try dsimp only at hSw); go_simp; (try with_reducible rfl))
  try simp only [Act.put, List.getElem_toArray, List.getElem_cons_succ, List.getElem_cons_zero, List.setIfInBounds_toArray, List.set_cons_zero, List.set_cons_succ]
  refine' wpAnyH_take (i := 27) (oi := _) (v := ?v27) rfl (by as_aux_lemma => kernel_rfl) (by as_aux_lemma => kernel_rfl) (by as_aux_lemma => kernel_rfl) (fun _ _ _ h => h) (Or.inl ⟨by rfl, ?y27⟩) hH0 ?r27
  case y27 => (intro w hSw; (try dsimp only at hSw); go_simp; (try with_reducible rfl))
  try simp only [Act.put, List.getElem_toArray, List.getElem_cons_succ, List.getElem_cons_zero, List.setIfInBounds_toArray, List.set_cons_zero, List.set_cons_succ]
  refine' wpAnyH_take (i := 28) (oi := _) (v := ?v28) rfl (by as_aux_lemma => kernel_rfl) (by as_aux_lemma => kernel_rfl) (by as_aux_lemma => kernel_rfl) (fun _ _ _ h => h) (Or.inl ⟨by rfl, ?y28⟩) hH0 ?r28
  case y28 => (intro w hSw; (try dsimp only at hSw); go_simp; (try with_reducible rfl))
  try simp only [Act.put, List.getElem_toArray, List.getElem_cons_succ, List.getElem_cons_zero, List.setIfInBounds_toArray, List.set_cons_zero, List.set_cons_succ]
  refine' wpAnyH_take (i := 29) (oi := _) (v := ?v29) rfl (by as_aux_lemma => kernel_rfl) (by as_aux_lemma => kernel_rfl) (by as_aux_lemma => kernel_rfl) (fun _ _ _ h => h) (Or.inl ⟨by rfl, ?y29⟩) hH0 ?r29
  case y29 => (intro w hSw; (try dsimp only at hSw); go_simp; (try with_reducible rfl))
  try simp only [Act.put, List.getElem_toArray, List.getElem_cons_succ, List.getElem_cons_zero, List.setIfInBounds_toArray, List.set_cons_zero, List.set_cons_succ]
  refine' wpAnyH_take (i := 30) (oi := _) (v := ?v30) rfl (by as_aux_lemma => kernel_rfl) (by as_aux_lemma => kernel_rfl) (by as_aux_lemma => kernel_rfl) (fun _ _ _ h => h) (Or.inl ⟨by rfl, ?y30⟩) hH0 ?r30
  case y30 => (intro w hSw; (try dsimp only at hSw); go_simp; (try with_reducible rfl))
  try simp only [Act.put, List.getElem_toArray, List.getElem_cons_succ, List.getElem_cons_zero, List.setIfInBounds_toArray, List.set_cons_zero, List.set_cons_succ]
  refine' wpAnyH_take (i := 31) (oi := _) (v := ?v31) rfl (by as_aux_lemma => kernel_rfl) (by as_aux_lemma => kernel_rfl) (by as_aux_lemma => kernel_rfl) (fun _ _ _ h => h) (Or.inl ⟨by rfl, ?y31⟩) hH0 ?r31
  case y31 => (intro w hSw; (try dsimp only at hSw); go_simp; (try with_reducible rfl))
  try simp only [Act.put, List.getElem_toArray, List.getElem_cons_succ, List.getElem_cons_zero, List.setIfInBounds_toArray, List.set_cons_zero, List.set_cons_succ]
  refine' wpAnyH_take (i := 32) (oi := _) (v := ?v32) rfl (by as_aux_lemma => kernel_rfl) (by as_aux_lemma => kernel_rfl) (by as_aux_lemma => kernel_rfl) (fun _ _ _ h => h) (Or.inl ⟨by rfl, ?y32⟩) hH0 ?r32
  case y32 => (intro w hSw; (try dsimp only at hSw); go_simp; (try with_reducible rfl))
  try simp only [Act.put, List.getElem_toArray, List.getElem_cons_succ, List.getElem_cons_zero, List.setIfInBounds_toArray, List.set_cons_zero, List.set_cons_succ]
  refine' wpAnyH_take (i := 33) (oi := _) (v := ?v33) rfl (by as_aux_lemma => kernel_rfl) (by as_aux_lemma => kernel_rfl) (by as_aux_lemma => kernel_rfl) (fun _ _ _ h => h) (Or.inl ⟨by rfl, ?y33⟩) hH0 ?r33
  case y33 => (intro w hSw; (try dsimp only at hSw); go_simp; (try with_reducible rfl))
  try simp only [Act.put, List.getElem_toArray, List.getElem_cons_succ, List.getElem_cons_zero, List.setIfInBounds_toArray, List.set_cons_zero, List.set_cons_succ]
  refine' wpAnyH_take (i := 34) (oi := _) (v := ?v34) rfl (by as_aux_lemma => kernel_rfl) (by as_aux_lemma => kernel_rfl) (by as_aux_lemma => kernel_rfl) (fun _ _ _ h => h) (Or.inl ⟨by rfl, ?y34⟩) hH0 ?r34
  case y34 => (intro w hSw; (try dsimp only at hSw); go_simp; (try with_reducible rfl))
  try simp only [Act.put, List.getElem_toArray, List.getElem_cons_succ, List.getElem_cons_zero, List.setIfInBounds_toArray, List.set_cons_zero, List.set_cons_succ]
  refine' wpAnyH_take (i := 35) (oi := _) (v := ?v35) rfl (by as_aux_lemma => kernel_rfl) (by as_aux_lemma => kernel_rfl) (by as_aux_lemma => kernel_rfl) (fun _ _ _ h => h) (Or.inl ⟨by rfl, ?y35⟩) hH0 ?r35
  case y35 => (intro w hSw; (try dsimp only at hSw); go_simp; (try with_reducible rfl))
  try simp only [Act.put, List.getElem_toArray, List.getElem_cons_succ, List.getElem_cons_zero, List.setIfInBounds_toArray, List.set_cons_zero, List.set_cons_succ]
  refine' wpAnyH_take (i := 36) (oi := _) (v := ?v36) rfl (by as_aux_lemma => kernel_rfl) (by as_aux_lemma => kernel_rfl) (by as_aux_lemma => kernel_rfl) (fun _ _ _ h => h) (Or.inl ⟨by rfl, ?y36⟩) hH0 ?r36
  case y36 => (intro w hSw; (try dsimp only at hSw); go_simp; (try with_reducible rfl))
  try simp only [Act.put, List.getElem_toArray, List.getElem_cons_succ, List.getElem_cons_zero, List.setIfInBounds_toArray, List.set_cons_zero, List.set_cons_succ]
  refine' wpAnyH_take (i := 37) (oi := _) (v := ?v37) rfl (by as_aux_lemma => kernel_rfl) (by as_aux_lemma => kernel_rfl) (by as_aux_lemma => kernel_rfl) (fun _ _ _ h => h) (Or.inl ⟨by rfl, ?y37⟩) hH0 ?r37
  case y37 => (intro w hSw; (try dsimp only at hSw); go_simp; (try with_reducible rfl))
  try simp only [Act.put, List.getElem_toArray, List.getElem_cons_succ, List.getElem_cons_zero, List.setIfInBounds_toArray, List.set_cons_zero, List.set_cons_succ]
  refine' wpAnyH_take (i := 38) (oi := _) (v := ?v38) rfl (by as_aux_lemma => kernel_rfl) (by as_aux_lemma => kernel_rfl) (by as_aux_lemma => kernel_rfl) (fun _ _ _ h => h) (Or.inl ⟨by rfl, ?y38⟩) hH0 ?r38
  case y38 => (intro w hSw; (try dsimp only at hSw); go_simp; (try with_reducible rfl))
  try simp only [Act.put, List.getElem_toArray, List.getElem_cons_succ, List.getElem_cons_zero, List.setIfInBounds_toArray, List.set_cons_zero, List.set_cons_succ]
  refine' wpAnyH_take (i := 39) (oi := _) (v := ?v39) rfl (by as_aux_lemma => kernel_rfl) (by as_aux_lemma => kernel_rfl) (by as_aux_lemma => kernel_rfl) (fun _ _ _ h => h) (Or.inl ⟨by rfl, ?y39⟩) hH0 ?r39
  case y39 => (intro w hSw; (try dsimp only at hSw); go_simp; (try with_reducible rfl))
  try simp only [Act.put, List.getElem_toArray, List.getElem_cons_succ, List.getElem_cons_zero, List.setIfInBounds_toArray, List.set_cons_zero, List.set_cons_succ]
  refine' wpAnyH_take (i := 40) (oi := _) (v := ?v40) rfl (by as_aux_lemma => kernel_rfl) (by as_aux_lemma => kernel_rfl) (by as_aux_lemma => kernel_rfl) (fun _ _ _ h => h) (Or.inl ⟨by rfl, ?y40⟩) hH0 ?r40
  case y40 => (intro w hSw; (try dsimp only at hSw); go_simp; (try with_reducible rfl))
  try simp only [Act.put, List.getElem_toArray, List.getElem_cons_succ, List.getElem_cons_zero, List.setIfInBounds_toArray, List.set_cons_zero, List.set_cons_succ]
  refine' wpAnyH_take (i := 41) (oi := _) (v := ?v41) rfl (by as_aux_lemma => kernel_rfl) (by as_aux_lemma => kernel_rfl) (by as_aux_lemma => kernel_rfl) (fun _ _ _ h => h) (Or.inl ⟨by rfl, ?y41⟩) hH0 ?r41
  case y41 => (intro w hSw; (try dsimp only at hSw); go_simp; (try with_reducible rfl))
  try simp only [Act.put, List.getElem_toArray, List.getElem_cons_succ, List.getElem_cons_zero, List.setIfInBounds_toArray, List.set_cons_zero, List.set_cons_succ]
  refine' wpAnyH_take (i := 42) (oi := _) (v := ?v42) rfl (by as_aux_lemma => kernel_rfl) (by as_aux_lemma => kernel_rfl) (by as_aux_lemma => kernel_rfl) (fun _ _ _ h => h) (Or.inl ⟨by rfl, ?y42⟩) hH0 ?r42
  case y42 => (intro w hSw; (try dsimp only at hSw); go_simp; (try with_reducible rfl))
  try simp only [Act.put, List.getElem_toArray, List.getElem_cons_succ, List.getElem_cons_zero, List.setIfInBounds_toArray, List.set_cons_zero, List.set_cons_succ]
  refine' wpAnyH_take (i := 43) (oi := _) (v := ?v43) rfl (by as_aux_lemma => kernel_rfl) (by as_aux_lemma => kernel_rfl) (by as_aux_lemma => kernel_rfl) (fun _ _ _ h => h) (Or.inl ⟨by rfl, ?y43⟩) hH0 ?r43
  case y43 => (intro w hSw; (try dsimp only at hSw); go_simp; (try with_reducible rfl))
  try simp only [Act.put, List.getElem_toArray, List.getElem_cons_succ, List.getElem_cons_zero, List.setIfInBounds_toArray, List.set_cons_zero, List.set_cons_succ]
  refine' wpAnyH_take (i := 44) (oi := _) (v := ?v44) rfl (by as_aux_lemma => kernel_rfl) (by as_aux_lemma => kernel_rfl) (by as_aux_lemma => kernel_rfl) (fun _ _ _ h => h) (Or.inl ⟨by rfl, ?y44⟩) hH0 ?r44
  case y44 => (intro w hSw; (try dsimp only at hSw); go_simp; (try with_reducible rfl))
  try simp only [Act.put, List.getElem_toArray, List.getElem_cons_succ, List.getElem_cons_zero, List.setIfInBounds_toArray, List.set_cons_zero, List.set_cons_succ]
  refine' wpAnyH_take (i := 45) (oi := _) (v := ?v45) rfl (by as_aux_lemma => kernel_rfl) (by as_aux_lemma => kernel_rfl) (by as_aux_lemma => kernel_rfl) (fun _ _ _ h => h) (Or.inl ⟨by rfl, ?y45⟩) hH0 ?r45
  case y45 => (intro w hSw; (try dsimp only at hSw); go_simp; (try with_reducible rfl))
  try simp only [Act.put, List.getElem_toArray, List.getElem_cons_succ, List.getElem_cons_zero, List.setIfInBounds_toArray, List.set_cons_zero, List.set_cons_succ]
  refine' wpAnyH_take (i := 46) (oi := _) (v := ?v46) rfl (by as_aux_lemma => kernel_rfl) (by as_aux_lemma => kernel_rfl) (by as_aux_lemma => kernel_rfl) (fun _ _ _ h => h) (Or.inl ⟨by rfl, ?y46⟩) hH0 ?r46
  case y46 => (intro w hSw; (try dsimp only at hSw); go_simp; (try with_reducible rfl))
  try simp only [Act.put, List.getElem_toArray, List.getElem_cons_succ, List.getElem_cons_zero, List.setIfInBounds_toArray, List.set_cons_zero, List.set_cons_succ]
  refine' wpAnyH_take (i := 47) (oi := _) (v := ?v47) rfl (by as_aux_lemma => kernel_rfl) (by as_aux_lemma => kernel_rfl) (by as_aux_lemma => kernel_rfl) (fun _ _ _ h => h) (Or.inl ⟨by rfl, ?y47⟩) hH0 ?r47
  case y47 => (intro w hSw; (try dsimp only at hSw); go_simp; (try with_reducible rfl))
  try simp only [Act.put, List.getElem_toArray, List.getElem_cons_succ, List.getElem_cons_zero, List.setIfInBounds_toArray, List.set_cons_zero, List.set_cons_succ]
  refine' wpAnyH_take (i := 48) (oi := _) (v := ?v48) rfl (by as_aux_lemma => kernel_rfl) (by as_aux_lemma => kernel_rfl) (by as_aux_lemma => kernel_rfl) (fun _ _ _ h => h) (Or.inl ⟨by rfl, ?y48⟩) hH0 ?r48
  case y48 => (intro w hSw; (try dsimp only at hSw); go_simp; (try with_reducible rfl))
  try simp only [Act.put, List.getElem_toArray, List.getElem_cons_succ, List.getElem_cons_zero, List.setIfInBounds_toArray, List.set_cons_zero, List.set_cons_succ]
  refine' wpAnyH_take (i := 49) (oi := _) (v := ?v49) rfl (by as_aux_lemma => kernel_rfl) (by as_aux_lemma => kernel_rfl) (by as_aux_lemma => kernel_rfl) (fun _ _ _ h => h) (Or.inl ⟨by rfl, ?y49⟩) hH0 ?r49
  case y49 => (intro w hSw; (try dsimp only at hSw); go_simp; (try with_reducible rfl))
  try simp only [Act.put, List.getElem_toArray, List.getElem_cons_succ, List.getElem_cons_zero, List.setIfInBounds_toArray, List.set_cons_zero, List.set_cons_succ]
  refine' wpAnyH_take (i := 51) (oi := _) (v := ?v50) rfl (by as_aux_lemma => kernel_rfl) (by as_aux_lemma => kernel_rfl) (by as_aux_lemma => kernel_rfl) (fun _ _ _ h => h) (Or.inl ⟨by rfl, ?y50⟩) hH0 ?r50
  case y50 => (intro w hSw; (try dsimp only at hSw); go_simp; (try with_reducible rfl))
  try simp only [Act.put, List.getElem_toArray, List.getElem_cons_succ, List.getElem_cons_zero, List.setIfInBounds_toArray, List.set_cons_zero, List.set_cons_succ]
  refine wpAnyH_ready (rs := [50]) (by as_aux_lemma => kernel_rfl) (by simp) ?_
  refine AllReadyH.cons (o := _) rfl (fun K hK => ?_) AllReadyH.nil
  go_simp
  first
    | (go_at_call 19; with_reducible refine (is_any y m d _).mono ?_; rintro e w2 ⟨rfl, hb⟩; refine hK.out _ _ (tells_keep hb hH0) (fun hN => ?_))
    | (go_at_call 20; with_reducible refine (ris_any y m d _).mono ?_; rintro e w2 ⟨rfl, hb⟩; refine hK.out _ _ (tells_keep hb hH0) (fun hN => ?_))
    | (go_at_call 21; with_reducible refine (leap_any y _).mono ?_; rintro e w2 ⟨rfl, rfl⟩; refine hK.out _ _ hH0 (fun hN => ?_))
    | (go_at_call 22; with_reducible refine (rleap_any y _).mono ?_; rintro e w2 ⟨rfl, rfl⟩; refine hK.out _ _ hH0 (fun hN => ?_))
    | (go_at_call 23; with_reducible refine (length_any y m _).mono ?_; rintro e w2 ⟨rfl, rfl⟩; refine hK.out _ _ hH0 (fun hN => ?_))
    | (go_at_call 24; with_reducible refine (rlength_any y m _).mono ?_; rintro e w2 ⟨rfl, rfl⟩; refine hK.out _ _ hH0 (fun hN => ?_))
    | (go_at_call 25; with_reducible refine (weekday_any n _ hI).mono ?_; rintro e w2 ⟨rfl, hb⟩; refine hK.out _ _ (tells_keep hb hH0) (fun hN => ?_))
    | (go_at_call 26; with_reducible refine (rWeekday_any n _).mono ?_; rintro e w2 ⟨rfl, rfl⟩; refine hK.out _ _ hH0 (fun hN => ?_))
    | (go_at_call 27; with_reducible refine (Text_any x _ (tells_tab hH0)).mono ?_; rintro e w2 ⟨rfl, hb⟩; refine hK.out _ _ (tells_keep hb hH0) (fun hN => ?_))
    | (go_at_call 28; with_reducible refine (rText_any x _).mono ?_; rintro e w2 ⟨rfl, hb⟩; refine hK.out _ _ (tells_keep hb hH0) (fun hN => ?_))
  clear hK K
  clear hH0
  have hH1 := hN
  clear hN
  try simp only [Act.put, List.getElem_toArray, List.getElem_cons_succ, List.getElem_cons_zero, List.setIfInBounds_toArray, List.set_cons_zero, List.set_cons_succ]
  refine wpAnyH_ready (rs := [52]) (by as_aux_lemma => kernel_rfl) (by simp) ?_
  refine AllReadyH.cons (o := _) rfl (fun K hK => ?_) AllReadyH.nil
  go_simp
  first
    | (go_at_call 19; with_reducible refine (is_any y m d _).mono ?_; rintro e w2 ⟨rfl, hb⟩; refine hK.out _ _ (tells_keep hb hH1) (fun hN => ?_))
    | (go_at_call 20; with_reducible refine (ris_any y m d _).mono ?_; rintro e w2 ⟨rfl, hb⟩; refine hK.out _ _ (tells_keep hb hH1) (fun hN => ?_))
    | (go_at_call 21; with_reducible refine (leap_any y _).mono ?_; rintro e w2 ⟨rfl, rfl⟩; refine hK.out _ _ hH1 (fun hN => ?_))
    | (go_at_call 22; with_reducible refine (rleap_any y _).mono ?_; rintro e w2 ⟨rfl, rfl⟩; refine hK.out _ _ hH1 (fun hN => ?_))
    | (go_at_call 23; with_reducible refine (length_any y m _).mono ?_; rintro e w2 ⟨rfl, rfl⟩; refine hK.out _ _ hH1 (fun hN => ?_))
    | (go_at_call 24; with_reducible refine (rlength_any y m _).mono ?_; rintro e w2 ⟨rfl, rfl⟩; refine hK.out _ _ hH1 (fun hN => ?_))
    | (go_at_call 25; with_reducible refine (weekday_any n _ hI).mono ?_; rintro e w2 ⟨rfl, hb⟩; refine hK.out _ _ (tells_keep hb hH1) (fun hN => ?_))
    | (go_at_call 26; with_reducible refine (rWeekday_any n _).mono ?_; rintro e w2 ⟨rfl, rfl⟩; refine hK.out _ _ hH1 (fun hN => ?_))
    | (go_at_call 27; with_reducible refine (Text_any x _ (tells_tab hH1)).mono ?_; rintro e w2 ⟨rfl, hb⟩; refine hK.out _ _ (tells_keep hb hH1) (fun hN => ?_))
    | (go_at_call 28; with_reducible refine (rText_any x _).mono ?_; rintro e w2 ⟨rfl, hb⟩; refine hK.out _ _ (tells_keep hb hH1) (fun hN => ?_))
  clear hK K
  clear hH1
  have hH2 := hN
  clear hN
  try simp only [Act.put, List.getElem_toArray, List.getElem_cons_succ, List.getElem_cons_zero, List.setIfInBounds_toArray, List.set_cons_zero, List.set_cons_succ]
  refine' wpAnyH_take (i := 53) (oi := _) (v := ?v53) rfl (by as_aux_lemma => kernel_rfl) (by as_aux_lemma => kernel_rfl) (by as_aux_lemma => kernel_rfl) (fun _ _ _ h => h) (Or.inl ⟨by rfl, ?y53⟩) hH2 ?r53
  case y53 => (intro w hSw; (try dsimp only at hSw); go_simp; (try with_reducible rfl))
  try simp only [Act.put, List.getElem_toArray, List.getElem_cons_succ, List.getElem_cons_zero, List.setIfInBounds_toArray, List.set_cons_zero, List.set_cons_succ]
  refine' wpAnyH_take (i := 54) (oi := _) (v := ?v54) rfl (by as_aux_lemma => kernel_rfl) (by as_aux_lemma => kernel_rfl) (by as_aux_lemma => kernel_rfl) (fun _ _ _ h => h) (Or.inl ⟨by rfl, ?y54⟩) hH2 ?r54
  case y54 => (intro w hSw; (try dsimp only at hSw); go_simp; (try with_reducible rfl))
  try simp only [Act.put, List.getElem_toArray, List.getElem_cons_succ, List.getElem_cons_zero, List.setIfInBounds_toArray, List.set_cons_zero, List.set_cons_succ]
  refine' wpAnyH_take (i := 55) (oi := _) (v := ?v55) rfl (by as_aux_lemma => kernel_rfl) (by as_aux_lemma => kernel_rfl) (by as_aux_lemma => kernel_rfl) (fun _ _ _ h => h) (Or.inl ⟨by rfl, ?y55⟩) hH2 ?r55
  case y55 => (intro w hSw; (try dsimp only at hSw); go_simp; (try with_reducible rfl))
  try simp only [Act.put, List.getElem_toArray, List.getElem_cons_succ, List.getElem_cons_zero, List.setIfInBounds_toArray, List.set_cons_zero, List.set_cons_succ]
  refine' wpAnyH_take (i := 56) (oi := _) (v := ?v56) rfl (by as_aux_lemma => kernel_rfl) (by as_aux_lemma => kernel_rfl) (by as_aux_lemma => kernel_rfl) (fun _ _ _ h => h) (Or.inl ⟨by rfl, ?y56⟩) hH2 ?r56
  case y56 => (intro w hSw; (try dsimp only at hSw); go_simp; (try with_reducible rfl))
  try simp only [Act.put, List.getElem_toArray, List.getElem_cons_succ, List.getElem_cons_zero, List.setIfInBounds_toArray, List.set_cons_zero, List.set_cons_succ]
  refine' wpAnyH_take (i := 57) (oi := _) (v := ?v57) rfl (by as_aux_lemma => kernel_rfl) (by as_aux_lemma => kernel_rfl) (by as_aux_lemma => kernel_rfl) (fun _ _ _ h => h) (Or.inl ⟨by rfl, ?y57⟩) hH2 ?r57
  case y57 => (intro w hSw; (try dsimp only at hSw); go_simp; (try with_reducible rfl))
  try simp only [Act.put, List.getElem_toArray, List.getElem_cons_succ, List.getElem_cons_zero, List.setIfInBounds_toArray, List.set_cons_zero, List.set_cons_succ]
  refine' wpAnyH_take (i := 59) (oi := _) (v := ?v58) rfl (by as_aux_lemma => kernel_rfl) (by as_aux_lemma => kernel_rfl) (by as_aux_lemma => kernel_rfl) (fun _ _ _ h => h) (Or.inl ⟨by rfl, ?y58⟩) hH2 ?r58
  case y58 => (intro w hSw; (try dsimp only at hSw); go_simp; (try with_reducible rfl))
  try simp only [Act.put, List.getElem_toArray, List.getElem_cons_succ, List.getElem_cons_zero, List.setIfInBounds_toArray, List.set_cons_zero, List.set_cons_succ]
  refine' wpAnyH_take (i := 60) (oi := _) (v := ?v59) rfl (by as_aux_lemma => kernel_rfl) (by as_aux_lemma => kernel_rfl) (by as_aux_lemma => kernel_rfl) (fun _ _ _ h => h) (Or.inl ⟨by rfl, ?y59⟩) hH2 ?r59
  case y59 => (intro w hSw; (try dsimp only at hSw); go_simp; (try with_reducible rfl))
  try simp only [Act.put, List.getElem_toArray, List.getElem_cons_succ, List.getElem_cons_zero, List.setIfInBounds_toArray, List.set_cons_zero, List.set_cons_succ]
  refine wpAnyH_ready (rs := [58]) (by as_aux_lemma => kernel_rfl) (by simp) ?_
  refine AllReadyH.cons (o := _) rfl (fun K hK => ?_) AllReadyH.nil
  go_simp
  first
    | (go_at_call 19; with_reducible refine (is_any y m d _).mono ?_; rintro e w2 ⟨rfl, hb⟩; refine hK.out _ _ (tells_keep hb hH2) (fun hN => ?_))
    | (go_at_call 20; with_reducible refine (ris_any y m d _).mono ?_; rintro e w2 ⟨rfl, hb⟩; refine hK.out _ _ (tells_keep hb hH2) (fun hN => ?_))
    | (go_at_call 21; with_reducible refine (leap_any y _).mono ?_; rintro e w2 ⟨rfl, rfl⟩; refine hK.out _ _ hH2 (fun hN => ?_))
    | (go_at_call 22; with_reducible refine (rleap_any y _).mono ?_; rintro e w2 ⟨rfl, rfl⟩; refine hK.out _ _ hH2 (fun hN => ?_))
    | (go_at_call 23; with_reducible refine (length_any y m _).mono ?_; rintro e w2 ⟨rfl, rfl⟩; refine hK.out _ _ hH2 (fun hN => ?_))
    | (go_at_call 24; with_reducible refine (rlength_any y m _).mono ?_; rintro e w2 ⟨rfl, rfl⟩; refine hK.out _ _ hH2 (fun hN => ?_))
    | (go_at_call 25; with_reducible refine (weekday_any n _ hI).mono ?_; rintro e w2 ⟨rfl, hb⟩; refine hK.out _ _ (tells_keep hb hH2) (fun hN => ?_))
    | (go_at_call 26; with_reducible refine (rWeekday_any n _).mono ?_; rintro e w2 ⟨rfl, rfl⟩; refine hK.out _ _ hH2 (fun hN => ?_))
    | (go_at_call 27; with_reducible refine (Text_any x _ (tells_tab hH2)).mono ?_; rintro e w2 ⟨rfl, hb⟩; refine hK.out _ _ (tells_keep hb hH2) (fun hN => ?_))
    | (go_at_call 28; with_reducible refine (rText_any x _).mono ?_; rintro e w2 ⟨rfl, hb⟩; refine hK.out _ _ (tells_keep hb hH2) (fun hN => ?_))
  clear hK K
  clear hH2
  have hH3 := hN
  clear hN
  try simp only [Act.put, List.getElem_toArray, List.getElem_cons_succ, List.getElem_cons_zero, List.setIfInBounds_toArray, List.set_cons_zero, List.set_cons_succ]
  refine wpAnyH_ready (rs := [61]) (by as_aux_lemma => kernel_rfl) (by simp) ?_
  refine AllReadyH.cons (o := _) rfl (fun K hK => ?_) AllReadyH.nil
  go_simp
  first
    | (go_at_call 19; with_reducible refine (is_any y m d _).mono ?_; rintro e w2 ⟨rfl, hb⟩; refine hK.out _ _ (tells_keep hb hH3) (fun hN => ?_))
    | (go_at_call 20; with_reducible refine (ris_any y m d _).mono ?_; rintro e w2 ⟨rfl, hb⟩; refine hK.out _ _ (tells_keep hb hH3) (fun hN => ?_))
    | (go_at_call 21; with_reducible refine (leap_any y _).mono ?_; rintro e w2 ⟨rfl, rfl⟩; refine hK.out _ _ hH3 (fun hN => ?_))
    | (go_at_call 22; with_reducible refine (rleap_any y _).mono ?_; rintro e w2 ⟨rfl, rfl⟩; refine hK.out _ _ hH3 (fun hN => ?_))
    | (go_at_call 23; with_reducible refine (length_any y m _).mono ?_; rintro e w2 ⟨rfl, rfl⟩; refine hK.out _ _ hH3 (fun hN => ?_))
    | (go_at_call 24; with_reducible refine (rlength_any y m _).mono ?_; rintro e w2 ⟨rfl, rfl⟩; refine hK.out _ _ hH3 (fun hN => ?_))
    | (go_at_call 25; with_reducible refine (weekday_any n _ hI).mono ?_; rintro e w2 ⟨rfl, hb⟩; refine hK.out _ _ (tells_keep hb hH3) (fun hN => ?_))
    | (go_at_call 26; with_reducible refine (rWeekday_any n _).mono ?_; rintro e w2 ⟨rfl, rfl⟩; refine hK.out _ _ hH3 (fun hN => ?_))
    | (go_at_call 27; with_reducible refine (Text_any x _ (tells_tab hH3)).mono ?_; rintro e w2 ⟨rfl, hb⟩; refine hK.out _ _ (tells_keep hb hH3) (fun hN => ?_))
    | (go_at_call 28; with_reducible refine (rText_any x _).mono ?_; rintro e w2 ⟨rfl, hb⟩; refine hK.out _ _ (tells_keep hb hH3) (fun hN => ?_))
  clear hK K
  clear hH3
  have hH4 := hN
  clear hN
  try simp only [Act.put, List.getElem_toArray, List.getElem_cons_succ, List.getElem_cons_zero, List.setIfInBounds_toArray, List.set_cons_zero, List.set_cons_succ]
  refine' wpAnyH_take (i := 62) (oi := _) (v := ?v62) rfl (by as_aux_lemma => kernel_rfl) (by as_aux_lemma => kernel_rfl) (by as_aux_lemma => kernel_rfl) (fun _ _ _ h => h) (Or.inl ⟨by rfl, ?y62⟩) hH4 ?r62
  case y62 => (intro w hSw; (try dsimp only at hSw); go_simp; (try with_reducible rfl))
  try simp only [Act.put, List.getElem_toArray, List.getElem_cons_succ, List.getElem_cons_zero, List.setIfInBounds_toArray, List.set_cons_zero, List.set_cons_succ]
  refine' wpAnyH_take (i := 63) (oi := _) (v := ?v63) rfl (by as_aux_lemma => kernel_rfl) (by as_aux_lemma => kernel_rfl) (by as_aux_lemma => kernel_rfl) (fun _ _ _ h => h) (Or.inl ⟨by rfl, ?y63⟩) hH4 ?r63
  case y63 => (intro w hSw; (try dsimp only at hSw); go_simp; (try with_reducible rfl))
  try simp only [Act.put, List.getElem_toArray, List.getElem_cons_succ, List.getElem_cons_zero, List.setIfInBounds_toArray, List.set_cons_zero, List.set_cons_succ]
  refine' wpAnyH_take (i := 64) (oi := _) (v := ?v64) rfl (by as_aux_lemma => kernel_rfl) (by as_aux_lemma => kernel_rfl) (by as_aux_lemma => kernel_rfl) (fun _ _ _ h => h) (Or.inl ⟨by rfl, ?y64⟩) hH4 ?r64
  case y64 => (intro w hSw; (try dsimp only at hSw); go_simp; (try with_reducible rfl))
  try simp only [Act.put, List.getElem_toArray, List.getElem_cons_succ, List.getElem_cons_zero, List.setIfInBounds_toArray, List.set_cons_zero, List.set_cons_succ]
  refine' wpAnyH_take (i := 65) (oi := _) (v := ?v65) rfl (by as_aux_lemma => kernel_rfl) (by as_aux_lemma => kernel_rfl) (by as_aux_lemma => kernel_rfl) (fun _ _ _ h => h) (Or.inl ⟨by rfl, ?y65⟩) hH4 ?r65
  case y65 => (intro w hSw; (try dsimp only at hSw); go_simp; (try with_reducible rfl))
  try simp only [Act.put, List.getElem_toArray, List.getElem_cons_succ, List.getElem_cons_zero, List.setIfInBounds_toArray, List.set_cons_zero, List.set_cons_succ]
  refine' wpAnyH_take (i := 66) (oi := _) (v := ?v66) rfl (by as_aux_lemma => kernel_rfl) (by as_aux_lemma => kernel_rfl) (by as_aux_lemma => kernel_rfl) (fun _ _ _ h => h) (Or.inl ⟨by rfl, ?y66⟩) hH4 ?r66
  case y66 => (intro w hSw; (try dsimp only at hSw); go_simp; (try with_reducible rfl))
  try simp only [Act.put, List.getElem_toArray, List.getElem_cons_succ, List.getElem_cons_zero, List.setIfInBounds_toArray, List.set_cons_zero, List.set_cons_succ]
  refine' wpAnyH_take (i := 67) (oi := _) (v := ?v67) rfl (by as_aux_lemma => kernel_rfl) (by as_aux_lemma => kernel_rfl) (by as_aux_lemma => kernel_rfl) (fun _ _ _ h => h) (Or.inl ⟨by rfl, ?y67⟩) hH4 ?r67
  case y67 => (intro w hSw; (try dsimp only at hSw); go_simp; (try with_reducible rfl))
  try simp only [Act.put, List.getElem_toArray, List.getElem_cons_succ, List.getElem_cons_zero, List.setIfInBounds_toArray, List.set_cons_zero, List.set_cons_succ]
  refine' wpAnyH_take (i := 68) (oi := _) (v := ?v68) rfl (by as_aux_lemma => kernel_rfl) (by as_aux_lemma => kernel_rfl) (by as_aux_lemma => kernel_rfl) (fun _ _ _ h => h) (Or.inl ⟨by rfl, ?y68⟩) hH4 ?r68
  case y68 => (intro w hSw; (try dsimp only at hSw); go_simp; (try with_reducible rfl))
  try simp only [Act.put, List.getElem_toArray, List.getElem_cons_succ, List.getElem_cons_zero, List.setIfInBounds_toArray, List.set_cons_zero, List.set_cons_succ]
  refine' wpAnyH_take (i := 70) (oi := _) (v := ?v69) rfl (by as_aux_lemma => kernel_rfl) (by as_aux_lemma => kernel_rfl) (by as_aux_lemma => kernel_rfl) (fun _ _ _ h => h) (Or.inl ⟨by rfl, ?y69⟩) hH4 ?r69
  case y69 => (intro w hSw; (try dsimp only at hSw); go_simp; (try with_reducible rfl))
  try simp only [Act.put, List.getElem_toArray, List.getElem_cons_succ, List.getElem_cons_zero, List.setIfInBounds_toArray, List.set_cons_zero, List.set_cons_succ]
  refine' wpAnyH_take (i := 71) (oi := _) (v := ?v70) rfl (by as_aux_lemma => kernel_rfl) (by as_aux_lemma => kernel_rfl) (by as_aux_lemma => kernel_rfl) (fun _ _ _ h => h) (Or.inl ⟨by rfl, ?y70⟩) hH4 ?r70
  case y70 => (intro w hSw; (try dsimp only at hSw); go_simp; (try with_reducible rfl))
  try simp only [Act.put, List.getElem_toArray, List.getElem_cons_succ, List.getElem_cons_zero, List.setIfInBounds_toArray, List.set_cons_zero, List.set_cons_succ]
  refine' wpAnyH_take (i := 72) (oi := _) (v := ?v71) rfl (by as_aux_lemma => kernel_rfl) (by as_aux_lemma => kernel_rfl) (by as_aux_lemma => kernel_rfl) (fun _ _ _ h => h) (Or.inl ⟨by rfl, ?y71⟩) hH4 ?r71
  case y71 => (intro w hSw; (try dsimp only at hSw); go_simp; (try with_reducible rfl))
  try simp only [Act.put, List.getElem_toArray, List.getElem_cons_succ, List.getElem_cons_zero, List.setIfInBounds_toArray, List.set_cons_zero, List.set_cons_succ]
  refine' wpAnyH_take (i := 73) (oi := _) (v := ?v72) rfl (by as_aux_lemma => kernel_rfl) (by as_aux_lemma => kernel_rfl) (by as_aux_lemma => kernel_rfl) (fun _ _ _ h => h) (Or.inl ⟨by rfl, ?y72⟩) hH4 ?r72
  case y72 => (intro w hSw; (try dsimp only at hSw); go_simp; (try with_reducible rfl))
  try simp only [Act.put, List.getElem_toArray, List.getElem_cons_succ, List.getElem_cons_zero, List.setIfInBounds_toArray, List.set_cons_zero, List.set_cons_succ]
  refine wpAnyH_ready (rs := [69]) (by as_aux_lemma => kernel_rfl) (by simp) ?_
  refine AllReadyH.cons (o := _) rfl (fun K hK => ?_) AllReadyH.nil
  go_simp
  first
    | (go_at_call 19; with_reducible refine (is_any y m d _).mono ?_; rintro e w2 ⟨rfl, hb⟩; refine hK.out _ _ (tells_keep hb hH4) (fun hN => ?_))
    | (go_at_call 20; with_reducible refine (ris_any y m d _).mono ?_; rintro e w2 ⟨rfl, hb⟩; refine hK.out _ _ (tells_keep hb hH4) (fun hN => ?_))
    | (go_at_call 21; with_reducible refine (leap_any y _).mono ?_; rintro e w2 ⟨rfl, rfl⟩; refine hK.out _ _ hH4 (fun hN => ?_))
    | (go_at_call 22; with_reducible refine (rleap_any y _).mono ?_; rintro e w2 ⟨rfl, rfl⟩; refine hK.out _ _ hH4 (fun hN => ?_))
    | (go_at_call 23; with_reducible refine (length_any y m _).mono ?_; rintro e w2 ⟨rfl, rfl⟩; refine hK.out _ _ hH4 (fun hN => ?_))
    | (go_at_call 24; with_reducible refine (rlength_any y m _).mono ?_; rintro e w2 ⟨rfl, rfl⟩; refine hK.out _ _ hH4 (fun hN => ?_))
    | (go_at_call 25; with_reducible refine (weekday_any n _ hI).mono ?_; rintro e w2 ⟨rfl, hb⟩; refine hK.out _ _ (tells_keep hb hH4) (fun hN => ?_))
    | (go_at_call 26; with_reducible refine (rWeekday_any n _).mono ?_; rintro e w2 ⟨rfl, rfl⟩; refine hK.out _ _ hH4 (fun hN => ?_))
    | (go_at_call 27; with_reducible refine (Text_any x _ (tells_tab hH4)).mono ?_; rintro e w2 ⟨rfl, hb⟩; refine hK.out _ _ (tells_keep hb hH4) (fun hN => ?_))
    | (go_at_call 28; with_reducible refine (rText_any x _).mono ?_; rintro e w2 ⟨rfl, hb⟩; refine hK.out _ _ (tells_keep hb hH4) (fun hN => ?_))
  clear hK K
  clear hH4
  have hH5 := hN
  clear hN
  try simp only [Act.put, List.getElem_toArray, List.getElem_cons_succ, List.getElem_cons_zero, List.setIfInBounds_toArray, List.set_cons_zero, List.set_cons_succ]
  refine wpAnyH_ready (rs := [74]) (by as_aux_lemma => kernel_rfl) (by simp) ?_
  refine AllReadyH.cons (o := _) rfl (fun K hK => ?_) AllReadyH.nil
  go_simp
  first
    | (go_at_call 19; with_reducible refine (is_any y m d _).mono ?_; rintro e w2 ⟨rfl, hb⟩; refine hK.out _ _ (tells_keep hb hH5) (fun hN => ?_))
    | (go_at_call 20; with_reducible refine (ris_any y m d _).mono ?_; rintro e w2 ⟨rfl, hb⟩; refine hK.out _ _ (tells_keep hb hH5) (fun hN => ?_))
    | (go_at_call 21; with_reducible refine (leap_any y _).mono ?_; rintro e w2 ⟨rfl, rfl⟩; refine hK.out _ _ hH5 (fun hN => ?_))
    | (go_at_call 22; with_reducible refine (rleap_any y _).mono ?_; rintro e w2 ⟨rfl, rfl⟩; refine hK.out _ _ hH5 (fun hN => ?_))
    | (go_at_call 23; with_reducible refine (length_any y m _).mono ?_; rintro e w2 ⟨rfl, rfl⟩; refine hK.out _ _ hH5 (fun hN => ?_))
    | (go_at_call 24; with_reducible refine (rlength_any y m _).mono ?_; rintro e w2 ⟨rfl, rfl⟩; refine hK.out _ _ hH5 (fun hN => ?_))
    | (go_at_call 25; with_reducible refine (weekday_any n _ hI).mono ?_; rintro e w2 ⟨rfl, hb⟩; refine hK.out _ _ (tells_keep hb hH5) (fun hN => ?_))
    | (go_at_call 26; with_reducible refine (rWeekday_any n _).mono ?_; rintro e w2 ⟨rfl, rfl⟩; refine hK.out _ _ hH5 (fun hN => ?_))
    | (go_at_call 27; with_reducible refine (Text_any x _ (tells_tab hH5)).mono ?_; rintro e w2 ⟨rfl, hb⟩; refine hK.out _ _ (tells_keep hb hH5) (fun hN => ?_))
    | (go_at_call 28; with_reducible refine (rText_any x _).mono ?_; rintro e w2 ⟨rfl, hb⟩; refine hK.out _ _ (tells_keep hb hH5) (fun hN => ?_))
  clear hK K
  clear hH5
  have hH6 := hN
  clear hN
  try simp only [Act.put, List.getElem_toArray, List.getElem_cons_succ, List.getElem_cons_zero, List.setIfInBounds_toArray, List.set_cons_zero, List.set_cons_succ]
  refine' wpAnyH_take (i := 75) (oi := _) (v := ?v75) rfl (by as_aux_lemma => kernel_rfl) (by as_aux_lemma => kernel_rfl) (by as_aux_lemma => kernel_rfl) (fun _ _ _ h => h) (Or.inl ⟨by rfl, ?y75⟩) hH6 ?r75
  case y75 => (intro w hSw; (try dsimp only at hSw); go_simp; (try with_reducible rfl))
  try simp only [Act.put, List.getElem_toArray, List.getElem_cons_succ, List.getElem_cons_zero, List.setIfInBounds_toArray, List.set_cons_zero, List.set_cons_succ]
  refine' wpAnyH_take (i := 76) (oi := _) (v := ?v76) rfl (by as_aux_lemma => kernel_rfl) (by as_aux_lemma => kernel_rfl) (by as_aux_lemma => kernel_rfl) (fun _ _ _ h => h) (Or.inl ⟨by rfl, ?y76⟩) hH6 ?r76
  case y76 => (intro w hSw; (try dsimp only at hSw); go_simp; (try with_reducible rfl))
  try simp only [Act.put, List.getElem_toArray, List.getElem_cons_succ, List.getElem_cons_zero, List.setIfInBounds_toArray, List.set_cons_zero, List.set_cons_succ]
  refine' wpAnyH_take (i := 77) (oi := _) (v := ?v77) rfl (by as_aux_lemma => kernel_rfl) (by as_aux_lemma => kernel_rfl) (by as_aux_lemma => kernel_rfl) (fun _ _ _ h => h) (Or.inl ⟨by rfl, ?y77⟩) hH6 ?r77
  case y77 => (intro w hSw; (try dsimp only at hSw); go_simp; (try with_reducible rfl))
  try simp only [Act.put, List.getElem_toArray, List.getElem_cons_succ, List.getElem_cons_zero, List.setIfInBounds_toArray, List.set_cons_zero, List.set_cons_succ]
  refine' wpAnyH_take (i := 78) (oi := _) (v := ?v78) rfl (by as_aux_lemma => kernel_rfl) (by as_aux_lemma => kernel_rfl) (by as_aux_lemma => kernel_rfl) (fun _ _ _ h => h) (Or.inl ⟨by rfl, ?y78⟩) hH6 ?r78
  case y78 => (intro w hSw; (try dsimp only at hSw); go_simp; (try with_reducible rfl))
  try simp only [Act.put, List.getElem_toArray, List.getElem_cons_succ, List.getElem_cons_zero, List.setIfInBounds_toArray, List.set_cons_zero, List.set_cons_succ]
  refine' wpAnyH_take (i := 80) (oi := _) (v := ?v79) rfl (by as_aux_lemma => kernel_rfl) (by as_aux_lemma => kernel_rfl) (by as_aux_lemma => kernel_rfl) (fun _ _ _ h => h) (Or.inl ⟨by rfl, ?y79⟩) hH6 ?r79
  case y79 => (intro w hSw; (try dsimp only at hSw); go_simp; (try with_reducible rfl))
  try simp only [Act.put, List.getElem_toArray, List.getElem_cons_succ, List.getElem_cons_zero, List.setIfInBounds_toArray, List.set_cons_zero, List.set_cons_succ]
  refine wpAnyH_ready (rs := [79]) (by as_aux_lemma => kernel_rfl) (by simp) ?_
  refine AllReadyH.cons (o := _) rfl (fun K hK => ?_) AllReadyH.nil
  go_simp
  first
    | (go_at_call 19; with_reducible refine (is_any y m d _).mono ?_; rintro e w2 ⟨rfl, hb⟩; refine hK.out _ _ (tells_keep hb hH6) (fun hN => ?_))
    | (go_at_call 20; with_reducible refine (ris_any y m d _).mono ?_; rintro e w2 ⟨rfl, hb⟩; refine hK.out _ _ (tells_keep hb hH6) (fun hN => ?_))
    | (go_at_call 21; with_reducible refine (leap_any y _).mono ?_; rintro e w2 ⟨rfl, rfl⟩; refine hK.out _ _ hH6 (fun hN => ?_))
    | (go_at_call 22; with_reducible refine (rleap_any y _).mono ?_; rintro e w2 ⟨rfl, rfl⟩; refine hK.out _ _ hH6 (fun hN => ?_))
    | (go_at_call 23; with_reducible refine (length_any y m _).mono ?_; rintro e w2 ⟨rfl, rfl⟩; refine hK.out _ _ hH6 (fun hN => ?_))
    | (go_at_call 24; with_reducible refine (rlength_any y m _).mono ?_; rintro e w2 ⟨rfl, rfl⟩; refine hK.out _ _ hH6 (fun hN => ?_))
    | (go_at_call 25; with_reducible refine (weekday_any n _ hI).mono ?_; rintro e w2 ⟨rfl, hb⟩; refine hK.out _ _ (tells_keep hb hH6) (fun hN => ?_))
    | (go_at_call 26; with_reducible refine (rWeekday_any n _).mono ?_; rintro e w2 ⟨rfl, rfl⟩; refine hK.out _ _ hH6 (fun hN => ?_))
    | (go_at_call 27; with_reducible refine (Text_any x _ (tells_tab hH6)).mono ?_; rintro e w2 ⟨rfl, hb⟩; refine hK.out _ _ (tells_keep hb hH6) (fun hN => ?_))
    | (go_at_call 28; with_reducible refine (rText_any x _).mono ?_; rintro e w2 ⟨rfl, hb⟩; refine hK.out _ _ (tells_keep hb hH6) (fun hN => ?_))
  clear hK K
  clear hH6
  have hH7 := hN
  clear hN
  try simp only [Act.put, List.getElem_toArray, List.getElem_cons_succ, List.getElem_cons_zero, List.setIfInBounds_toArray, List.set_cons_zero, List.set_cons_succ]
  refine wpAnyH_ready (rs := [81]) (by as_aux_lemma => kernel_rfl) (by simp) ?_
  refine AllReadyH.cons (o := _) rfl (fun K hK => ?_) AllReadyH.nil
  go_simp
  first
    | (go_at_call 19; with_reducible refine (is_any y m d _).mono ?_; rintro e w2 ⟨rfl, hb⟩; refine hK.out _ _ (tells_keep hb hH7) (fun hN => ?_))
    | (go_at_call 20; with_reducible refine (ris_any y m d _).mono ?_; rintro e w2 ⟨rfl, hb⟩; refine hK.out _ _ (tells_keep hb hH7) (fun hN => ?_))
    | (go_at_call 21; with_reducible refine (leap_any y _).mono ?_; rintro e w2 ⟨rfl, rfl⟩; refine hK.out _ _ hH7 (fun hN => ?_))
    | (go_at_call 22; with_reducible refine (rleap_any y _).mono ?_; rintro e w2 ⟨rfl, rfl⟩; refine hK.out _ _ hH7 (fun hN => ?_))
    | (go_at_call 23; with_reducible refine (length_any y m _).mono ?_; rintro e w2 ⟨rfl, rfl⟩; refine hK.out _ _ hH7 (fun hN => ?_))
    | (go_at_call 24; with_reducible refine (rlength_any y m _).mono ?_; rintro e w2 ⟨rfl, rfl⟩; refine hK.out _ _ hH7 (fun hN => ?_))
    | (go_at_call 25; with_reducible refine (weekday_any n _ hI).mono ?_; rintro e w2 ⟨rfl, hb⟩; refine hK.out _ _ (tells_keep hb hH7) (fun hN => ?_))
    | (go_at_call 26; with_reducible refine (rWeekday_any n _).mono ?_; rintro e w2 ⟨rfl, rfl⟩; refine hK.out _ _ hH7 (fun hN => ?_))
    | (go_at_call 27; with_reducible refine (Text_any x _ (tells_tab hH7)).mono ?_; rintro e w2 ⟨rfl, hb⟩; refine hK.out _ _ (tells_keep hb hH7) (fun hN => ?_))
    | (go_at_call 28; with_reducible refine (rText_any x _).mono ?_; rintro e w2 ⟨rfl, hb⟩; refine hK.out _ _ (tells_keep hb hH7) (fun hN => ?_))
  clear hK K
  clear hH7
  have hH8 := hN
  clear hN
  try simp only [Act.put, List.getElem_toArray, List.getElem_cons_succ, List.getElem_cons_zero, List.setIfInBounds_toArray, List.set_cons_zero, List.set_cons_succ]
  refine' wpAnyH_take (i := 82) (oi := _) (v := ?v82) rfl (by as_aux_lemma => kernel_rfl) (by as_aux_lemma => kernel_rfl) (by as_aux_lemma => kernel_rfl) (fun _ _ _ h => h) (Or.inl ⟨by rfl, ?y82⟩) hH8 ?r82
  case y82 => (intro w hSw; (try dsimp only at hSw); go_simp; (try with_reducible rfl))
  try simp only [Act.put, List.getElem_toArray, List.getElem_cons_succ, List.getElem_cons_zero, List.setIfInBounds_toArray, List.set_cons_zero, List.set_cons_succ]
  refine' wpAnyH_take (i := 83) (oi := _) (v := ?v83) rfl (by as_aux_lemma => kernel_rfl) (by as_aux_lemma => kernel_rfl) (by as_aux_lemma => kernel_rfl) (fun _ _ _ h => h) (Or.inl ⟨by rfl, ?y83⟩) hH8 ?r83
  case y83 => (intro w hSw; (try dsimp only at hSw); go_simp; (try with_reducible rfl))
  try simp only [Act.put, List.getElem_toArray, List.getElem_cons_succ, List.getElem_cons_zero, List.setIfInBounds_toArray, List.set_cons_zero, List.set_cons_succ]
  refine' wpAnyH_take (i := 84) (oi := _) (v := ?v84) rfl (by as_aux_lemma => kernel_rfl) (by as_aux_lemma => kernel_rfl) (by as_aux_lemma => kernel_rfl) (fun _ _ _ h => h) (Or.inl ⟨by rfl, ?y84⟩) hH8 ?r84
  case y84 => (intro w hSw; (try dsimp only at hSw); go_simp; (try with_reducible rfl))
  try simp only [Act.put, List.getElem_toArray, List.getElem_cons_succ, List.getElem_cons_zero, List.setIfInBounds_toArray, List.set_cons_zero, List.set_cons_succ]
  refine' wpAnyH_take (i := 85) (oi := _) (v := ?v85) rfl (by as_aux_lemma => kernel_rfl) (by as_aux_lemma => kernel_rfl) (by as_aux_lemma => kernel_rfl) (fun _ _ _ h => h) (Or.inl ⟨by rfl, ?y85⟩) hH8 ?r85
  case y85 => (intro w hSw; (try dsimp only at hSw); go_simp; (try with_reducible rfl))
  try simp only [Act.put, List.getElem_toArray, List.getElem_cons_succ, List.getElem_cons_zero, List.setIfInBounds_toArray, List.set_cons_zero, List.set_cons_succ]
  refine' wpAnyH_take (i := 87) (oi := _) (v := ?v86) rfl (by as_aux_lemma => kernel_rfl) (by as_aux_lemma => kernel_rfl) (by as_aux_lemma => kernel_rfl) (fun _ _ _ h => h) (Or.inl ⟨by rfl, ?y86⟩) hH8 ?r86
  case y86 => (intro w hSw; (try dsimp only at hSw); go_simp; (try with_reducible rfl))
  try simp only [Act.put, List.getElem_toArray, List.getElem_cons_succ, List.getElem_cons_zero, List.setIfInBounds_toArray, List.set_cons_zero, List.set_cons_succ]
  refine wpAnyH_ready (rs := [86]) (by as_aux_lemma => kernel_rfl) (by simp) ?_
  refine AllReadyH.cons (o := _) rfl (fun K hK => ?_) AllReadyH.nil
  go_simp
  first
    | (go_at_call 19; with_reducible refine (is_any y m d _).mono ?_; rintro e w2 ⟨rfl, hb⟩; refine hK.out _ _ (tells_keep hb hH8) (fun hN => ?_))
    | (go_at_call 20; with_reducible refine (ris_any y m d _).mono ?_; rintro e w2 ⟨rfl, hb⟩; refine hK.out _ _ (tells_keep hb hH8) (fun hN => ?_))
    | (go_at_call 21; with_reducible refine (leap_any y _).mono ?_; rintro e w2 ⟨rfl, rfl⟩; refine hK.out _ _ hH8 (fun hN => ?_))
    | (go_at_call 22; with_reducible refine (rleap_any y _).mono ?_; rintro e w2 ⟨rfl, rfl⟩; refine hK.out _ _ hH8 (fun hN => ?_))
    | (go_at_call 23; with_reducible refine (length_any y m _).mono ?_; rintro e w2 ⟨rfl, rfl⟩; refine hK.out _ _ hH8 (fun hN => ?_))
    | (go_at_call 24; with_reducible refine (rlength_any y m _).mono ?_; rintro e w2 ⟨rfl, rfl⟩; refine hK.out _ _ hH8 (fun hN => ?_))
    | (go_at_call 25; with_reducible refine (weekday_any n _ hI).mono ?_; rintro e w2 ⟨rfl, hb⟩; refine hK.out _ _ (tells_keep hb hH8) (fun hN => ?_))
    | (go_at_call 26; with_reducible refine (rWeekday_any n _).mono ?_; rintro e w2 ⟨rfl, rfl⟩; refine hK.out _ _ hH8 (fun hN => ?_))
    | (go_at_call 27; with_reducible refine (Text_any x _ (tells_tab hH8)).mono ?_; rintro e w2 ⟨rfl, hb⟩; refine hK.out _ _ (tells_keep hb hH8) (fun hN => ?_))
    | (go_at_call 28; with_reducible refine (rText_any x _).mono ?_; rintro e w2 ⟨rfl, hb⟩; refine hK.out _ _ (tells_keep hb hH8) (fun hN => ?_))
  clear hK K
  clear hH8
  have hH9 := hN
  clear hN
  try simp only [Act.put, List.getElem_toArray, List.getElem_cons_succ, List.getElem_cons_zero, List.setIfInBounds_toArray, List.set_cons_zero, List.set_cons_succ]
  refine wpAnyH_ready (rs := [88]) (by as_aux_lemma => kernel_rfl) (by simp) ?_
  refine AllReadyH.cons (o := _) rfl (fun K hK => ?_) AllReadyH.nil
  go_simp
  first
    | (go_at_call 19; with_reducible refine (is_any y m d _).mono ?_; rintro e w2 ⟨rfl, hb⟩; refine hK.out _ _ (tells_keep hb hH9) (fun hN => ?_))
    | (go_at_call 20; with_reducible refine (ris_any y m d _).mono ?_; rintro e w2 ⟨rfl, hb⟩; refine hK.out _ _ (tells_keep hb hH9) (fun hN => ?_))
    | (go_at_call 21; with_reducible refine (leap_any y _).mono ?_; rintro e w2 ⟨rfl, rfl⟩; refine hK.out _ _ hH9 (fun hN => ?_))
    | (go_at_call 22; with_reducible refine (rleap_any y _).mono ?_; rintro e w2 ⟨rfl, rfl⟩; refine hK.out _ _ hH9 (fun hN => ?_))
    | (go_at_call 23; with_reducible refine (length_any y m _).mono ?_; rintro e w2 ⟨rfl, rfl⟩; refine hK.out _ _ hH9 (fun hN => ?_))
    | (go_at_call 24; with_reducible refine (rlength_any y m _).mono ?_; rintro e w2 ⟨rfl, rfl⟩; refine hK.out _ _ hH9 (fun hN => ?_))
    | (go_at_call 25; with_reducible refine (weekday_any n _ hI).mono ?_; rintro e w2 ⟨rfl, hb⟩; refine hK.out _ _ (tells_keep hb hH9) (fun hN => ?_))
    | (go_at_call 26; with_reducible refine (rWeekday_any n _).mono ?_; rintro e w2 ⟨rfl, rfl⟩; refine hK.out _ _ hH9 (fun hN => ?_))
    | (go_at_call 27; with_reducible refine (Text_any x _ (tells_tab hH9)).mono ?_; rintro e w2 ⟨rfl, hb⟩; refine hK.out _ _ (tells_keep hb hH9) (fun hN => ?_))
    | (go_at_call 28; with_reducible refine (rText_any x _).mono ?_; rintro e w2 ⟨rfl, hb⟩; refine hK.out _ _ (tells_keep hb hH9) (fun hN => ?_))
  clear hK K
  clear hH9
  have hH10 := hN
  clear hN
  try simp only [Act.put, List.getElem_toArray, List.getElem_cons_succ, List.getElem_cons_zero, List.setIfInBounds_toArray, List.set_cons_zero, List.set_cons_succ]
  refine' wpAnyH_take (i := 89) (oi := _) (v := ?v89) rfl (by as_aux_lemma => kernel_rfl) (by as_aux_lemma => kernel_rfl) (by as_aux_lemma => kernel_rfl) (fun _ _ _ h => h) (Or.inl ⟨by rfl, ?y89⟩) hH10 ?r89
  case y89 => (intro w hSw; (try dsimp only at hSw); go_simp; (try with_reducible rfl))
  try simp only [Act.put, List.getElem_toArray, List.getElem_cons_succ, List.getElem_cons_zero, List.setIfInBounds_toArray, List.set_cons_zero, List.set_cons_succ]
  refine' wpAnyH_take (i := 90) (oi := _) (v := ?v90) rfl (by as_aux_lemma => kernel_rfl) (by as_aux_lemma => kernel_rfl) (by as_aux_lemma => kernel_rfl) (fun _ _ _ h => h) (Or.inl ⟨by rfl, ?y90⟩) hH10 ?r90
  case y90 => (intro w hSw; (try dsimp only at hSw); go_simp; (try with_reducible rfl))
  try simp only [Act.put, List.getElem_toArray, List.getElem_cons_succ, List.getElem_cons_zero, List.setIfInBounds_toArray, List.set_cons_zero, List.set_cons_succ]
  refine' wpAnyH_take (i := 91) (oi := _) (v := ?v91) rfl (by as_aux_lemma => kernel_rfl) (by as_aux_lemma => kernel_rfl) (by as_aux_lemma => kernel_rfl) (fun _ _ _ h => h) (Or.inl ⟨by rfl, ?y91⟩) hH10 ?r91
  case y91 => (intro w hSw; (try dsimp only at hSw); go_simp; (try with_reducible rfl))
  try simp only [Act.put, List.getElem_toArray, List.getElem_cons_succ, List.getElem_cons_zero, List.setIfInBounds_toArray, List.set_cons_zero, List.set_cons_succ]
  refine wpAnyH_done (by as_aux_lemma => kernel_rfl) ?_ _
  obtain ⟨_, _, _, _, _, _, _, _, _, _, _, _, _, _, _, _, _, _, _, _, _, hbel⟩ := hH10
  go_wp2_with fail
  go_ret
  exact ⟨rfl, by rw [HB0.out]; exact hbel⟩

end Go.Proofs.YtbohogaopfkmlaaDoor

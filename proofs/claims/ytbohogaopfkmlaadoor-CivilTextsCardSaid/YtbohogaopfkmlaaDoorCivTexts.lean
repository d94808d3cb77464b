/- CivilTexts walked: one byte of a minute's text replaced: the text of another minute, or what is wrong. -/
import Derived.Test.YtbohogaopfkmlaaDoorCivTextsA
import Derived.Test.YtbohogaopfkmlaaDoorCivBack
import Derived.Laws.IdiomStrings
import Derived.Deep.QuietTactic
import Derived.BigQuiet
namespace Go.Proofs.YtbohogaopfkmlaaDoor
open Go.RowKit

/-- the bytes of a block. -/
structure Row (W : World) (B : Nat) (l : List UInt8) : Prop where
  lt : B < W.heap.size
  at_ : ∀ j (h : j < l.length), W.cell? ⟨B, j, none⟩ = some (.int .u8 ((l[j]).toNat : Int))
theorem Row.below {W W' : World} {B : Nat} {l : List UInt8} (h : Row W B l) (hb : Below W.heap.size W W') : Row W' B l :=
  ⟨Nat.lt_of_lt_of_le h.lt hb.size, fun j hj => by rw [(bcell hb).1 _ _ h.lt, h.at_ j hj]⟩
theorem Row.drew {W : World} {B : Nat} {l : List UInt8} (h : Row W B l) : Row W.drew B l := ⟨by have := h.lt; simpa using this, fun j hj => by have := h.at_ j hj; simpa using this⟩
theorem row_len (s : ByteArray) (cap : Nat) : (bytesRow s cap).size = s.size + (cap - s.size) := by
  unfold bytesRow
  rw [Array.size_append, Array.size_map, Array.size_replicate]
  rfl
theorem row_new (w : World) (l : List UInt8) (cap : Nat) (f : Nat × Nat) : Row (w.alloc (.cells (bytesRow (str l) cap) 5 f)) w.heap.size l := by
  refine ⟨by simp, fun j hj => ?_⟩
  rw [World.cell?_alloc_mark, bytesRow_at _ _ j (by simpa [str] using hj)]
  simp [str]
theorem Row.conv {W : World} {B : Nat} {l : List UInt8} (h : Row W B l) (cap : Nat) : (convert 55 9 (.slice (some ⟨B, 0, none⟩) l.length cap)).run Tryd.prog W = .ok (.string (str l)) W :=
  run_convert_bytes_back W _ _ 5 _ cap l Tryd.underlying55 Tryd.underlying5 Tryd.underlying9 (fun j hj => by
    have : (⟨B, 0, none⟩ : Addr).add j = ⟨B, j, none⟩ := by simp [Addr.add]; omega
    rw [this]; exact h.at_ j hj)
theorem Row.set {W : World} {B : Nat} {l : List UInt8} (h : Row W B l) (k : Nat) (c : UInt8) (hk : k < l.length) : Row (W.setCell ⟨B, k, none⟩ (.int .u8 (c.toNat : Int))) B (l.set k c) := by
  refine ⟨?_, fun j hj => ?_⟩
  · have := h.lt; simpa [World.setCell] using this
  · rw [List.length_set] at hj
    by_cases e : k = j
    · subst e
      rw [List.getElem_set_self]
      simp [go_sem, h.at_ k hk]
    · have ne : (⟨B, k, none⟩ : Addr) ≠ ⟨B, j, none⟩ := fun g => e (congrArg Addr.off g)
      rw [World.cell?_setCell_other (h := ne), h.at_ j hj, List.getElem_set_ne e]

theorem Tab.set' {W : World} (h : Tab W) (g o : Nat) (v : Value) (hg : 0 < g) : Tab (W.setCell ⟨g, o, none⟩ v) :=
  var?_below ((Below.refl g W).setCell (Nat.le_refl _) v) tab_global hg h

theorem texts_keep {w W w2 : World} {B cap : Nat} {l : List UInt8} (hl : l.length = 15) (hb : Below W.heap.size W w2)
    (h : Row W B l ∧ Tab W ∧ Below w.heap.size w W ∧ (convert 55 9 (.slice (some ⟨B, 0, none⟩) 15 cap)).run Tryd.prog W = .ok (.string (str l)) W) :
    Row w2 B l ∧ Tab w2 ∧ Below w.heap.size w w2 ∧ (convert 55 9 (.slice (some ⟨B, 0, none⟩) 15 cap)).run Tryd.prog w2 = .ok (.string (str l)) w2 := by
  obtain ⟨r, t, k, -⟩ := h
  have r2 := r.below hb
  have c2 := r2.conv cap
  rw [hl] at c2
  exact ⟨r2, t.below hb (Nat.le_refl _), k.trans (hb.mono k.size), c2⟩
theorem texts_tab {w W : World} {B cap : Nat} {l : List UInt8}
    (h : Row W B l ∧ Tab W ∧ Below w.heap.size w W ∧ (convert 55 9 (.slice (some ⟨B, 0, none⟩) 15 cap)).run Tryd.prog W = .ok (.string (str l)) W) : Tab W := h.2.1
theorem texts_text (n : Int) (l : List UInt8) (w : World) (h : textOf n = l) (ht : Tab w) :
    Calls Tryd.prog 27 #[.int .i64 n] w fun e w' => e = .returned (.string (str l)) ∧ Below w.heap.size w w' := by
  subst h; exact Text_any n w ht

set_option linter.unusedSimpArgs false in
set_option maxRecDepth 100000 in
set_option maxHeartbeats 2000000 in
theorem texts_core (a t m k : Int) (kn : Nat) (c : UInt8) (L L' : List UInt8) (w : World) (ht : Tab w) (a1 : 0 ≤ a) (a2 : a ≤ 4294967295) (t1 : 0 ≤ t) (t2 : t ≤ 255) (hm : a % 52596000 = m) (hk : t % 15 = k) (hkn : k = (kn : Int)) (hlt : kn < 15)
    (hL : textOf m = L) (hl : (str L).size = 15) (hL' : L.set kn c = L') (n e : Int) (hp : parseE L' = (n, e)) (B : Bool) (hB : ((str L').toList == (str L).toList) = B) (hc : (B = true ∧ n = m ∧ e = 0) ∨ (B = false ∧ (e = 10 ∨ e = 11 ∨ e = 14) ∧ n = 0) ∨ (B = false ∧ e = 0 ∧ ¬ n = m ∧ textOf n = L')) :
    Calls Tryd.prog 10 #[.int .u32 a, .int .u8 t, .int .u8 (c.toNat : Int)] w fun e w' => e = .returned (.bool true) ∧ Below w.heap.size w w' := by
  have HT := hide ht
  have HM := hide hm
  have HK := hide hk
  have HKN := hide hkn
  have HL := hide hL
  have HL' := hide hL'
  have HP := hide hp
  have HB := hide hB
  have am : 0 ≤ a % 52596000 ∧ a % 52596000 < 52596000 := by omega
  have tk : 0 ≤ t % 15 ∧ t % 15 < 15 := by omega
  have hcv := fun w => run_bytes_of_string (P := Tryd.prog) w 9 55 5 (str L) Tryd.underlying9 Tryd.underlying55 Tryd.underlying5
  rw [hl] at hcv
  clear ht hm hk hkn hL hL' hp hB
  go_enter Tryd.func10, Tryd.ntmps10
  go_wp2_with fail
  refine (known_any _ HT.out).mono ?_
  rintro e' w1 ⟨rfl, hb1⟩
  have KT1 := hide (HT.out.below hb1 (Nat.le_refl _))
  go_wp2_with fail
  rw [HM.out] at *
  refine (Text_any m _ KT1.out).mono ?_
  rintro e' w2 ⟨rfl, hb2⟩
  rw [HL.out]
  go_upto_region 9 with (fail)
  rw [HK.out, HKN.out]
  generalize grownCap w2 15 0 5 = cap
  have hbl : 15 ≤ (bytesRow (str L) cap).size := by rw [row_len]; omega
  have R1 : Hid (Row (w2.alloc (.cells (bytesRow (str L) cap) 5 ((bytesRow (str L) cap).size, (bytesRow (str L) cap).size + 1))) w2.heap.size L) := row_new w2 L cap _
  have F1 : (w2.alloc (.cells (bytesRow (str L) cap) 5 ((bytesRow (str L) cap).size, (bytesRow (str L) cap).size + 1))).frozen? ⟨w2.heap.size, kn, none⟩ = false := by
    rw [World.frozen?_alloc_mark]
    have : ¬ (bytesRow (str L) cap).size ≤ kn := by omega
    rw [decide_eq_false this]; rfl
  have KB1 : Hid (Below w2.heap.size w2 (w2.alloc (.cells (bytesRow (str L) cap) 5 ((bytesRow (str L) cap).size, (bytesRow (str L) cap).size + 1)))) := (Below.refl _ _).alloc (Nat.le_refl _) _
  generalize (w2.alloc (.cells (bytesRow (str L) cap) 5 ((bytesRow (str L) cap).size, (bytesRow (str L) cap).size + 1))) = W1 at *
  have hl2 : L.length = 15 := by rw [← hl, str_size]
  have C1 : W1.cell? ⟨w2.heap.size, kn, none⟩ = some (.int .u8 ((L[kn]'(by omega)).toNat : Int)) := R1.out.at_ kn (by omega)
  go_upto_region 10 with (fail)
  have KT2 := hide (KT1.out.below hb2 (Nat.le_refl _))
  have gt2 := KT2.out.lt
  have KT3 := hide ((KT2.out.below KB1.out (Nat.le_refl _)).set' w2.heap.size kn (.int .u8 (c.toNat : Int)) gt2)
  have R2 : Hid (Row (W1.setCell ⟨w2.heap.size, kn, none⟩ (.int .u8 (c.toNat : Int))) w2.heap.size L') := hide (HL'.out ▸ R1.out.set kn c (by omega))
  have KB2 : Hid (Below w2.heap.size w2 (W1.setCell ⟨w2.heap.size, kn, none⟩ (.int .u8 (c.toNat : Int)))) := hide (KB1.out.setCell (Nat.le_refl _) _)
  have hl3 : L'.length = 15 := by rw [← HL'.out, List.length_set, hl2]
  generalize W1.setCell ⟨w2.heap.size, kn, none⟩ (.int .u8 (c.toNat : Int)) = W2 at *
  clear C1 F1 hcv
  have hc2 := R2.out.drew.conv cap
  rw [hl3] at hc2
  go_wp2_with fail
  refine (parse_is L' n e _ HP.out).mono ?_
  rintro e' w3 ⟨rfl, hb3⟩
  clear hc2
  have R3 := hide (R2.out.drew.below hb3)
  have hc3 := R3.out.conv cap
  rw [hl3] at hc3
  go_upto_if 41 with (fail)
  have KT4 := hide (KT3.out.drew.below hb3 (Nat.le_refl _))
  rw [HB.out]
  have s1 := hb1.size
  have s2 := hb2.size
  have q1 : Below w.heap.size w w2 := hb1.trans (hb2.mono s1)
  have q2 : Below w.heap.size w W2 := q1.trans (KB2.out.mono (by omega))
  have q3 : Below w.heap.size w W2.drew := q2.drew
  have q4 : Hid (Below w.heap.size w w3) := hide (q3.trans (hb3.mono q3.size))
  have KB4 := q4
  clear q1 q2 q3 q4 s1 s2 hb1 hb2 hb3
  rcases hc with ⟨rfl, rfl, rfl⟩ | ⟨rfl, he, rfl⟩ | ⟨rfl, rfl, hn, ht'⟩
  · go_wp2_with fail
    go_ret
    exact ⟨rfl, KB4.out⟩
  · rcases he with rfl | rfl | rfl
    all_goals
      go_wp2_with fail
      go_quiet (fail)
      go_wp2_with fail
      go_ret
      exact ⟨rfl, below_drewN KB4.out _⟩
  · have hn1 : (n == m) = false := by simpa using hn
    have hn2 : (n != m) = true := by simpa using hn
    have HQ := hide ht'
    clear ht'
    go_wp2_with fail
    refine wp_region_held_drew (S := (fun w' => Row w' w2.heap.size L' ∧ Tab w' ∧ Below w.heap.size w w' ∧ (convert 55 9 (.slice (some ⟨w2.heap.size, 0, none⟩) 15 cap)).run Tryd.prog w' = .ok (.string (str L')) w')) (by kernel_rfl) ?_ (fun hH0 => ?_)
    · exact ⟨R3.out.drew, KT4.out.drew, KB4.out.drew, by have := R3.out.drew.conv cap; rw [hl3] at this; exact this⟩
    refine' wpAnyH_take (i := 0) (oi := _) (v := ?v0) rfl (by kernel_rfl) (by kernel_rfl) (by kernel_rfl) (fun _ _ _ h => h) (Or.inl ⟨by rfl, ?y0⟩) hH0 ?r0
    case y0 => (intro w hSw; (try dsimp only at hSw); go_simp; (try with_reducible rfl))
    try simp only [Act.put, List.getElem_toArray, List.getElem_cons_succ, List.getElem_cons_zero, List.setIfInBounds_toArray, List.set_cons_zero, List.set_cons_succ]
    refine' wpAnyH_take (i := 1) (oi := _) (v := ?v1) rfl (by kernel_rfl) (by kernel_rfl) (by kernel_rfl) (fun _ _ _ h => h) (Or.inl ⟨by rfl, ?y1⟩) hH0 ?r1
    case y1 => (intro w hSw; (try dsimp only at hSw); go_simp; (try with_reducible rfl))
    try simp only [Act.put, List.getElem_toArray, List.getElem_cons_succ, List.getElem_cons_zero, List.setIfInBounds_toArray, List.set_cons_zero, List.set_cons_succ]
    refine' wpAnyH_take (i := 2) (oi := _) (v := ?v2) rfl (by kernel_rfl) (by kernel_rfl) (by kernel_rfl) (fun _ _ _ h => h) (Or.inl ⟨by rfl, ?y2⟩) hH0 ?r2
    case y2 => (intro w hSw; (try dsimp only at hSw); go_simp; (try with_reducible rfl))
    try simp only [Act.put, List.getElem_toArray, List.getElem_cons_succ, List.getElem_cons_zero, List.setIfInBounds_toArray, List.set_cons_zero, List.set_cons_succ]
    refine' wpAnyH_take (i := 3) (oi := _) (v := undef) rfl (by kernel_rfl) (by kernel_rfl) (by kernel_rfl) (fun _ _ _ h => h) (Or.inr ⟨by rfl, rfl⟩) hH0 ?r3
    try simp only [Act.put, List.getElem_toArray, List.getElem_cons_succ, List.getElem_cons_zero, List.setIfInBounds_toArray, List.set_cons_zero, List.set_cons_succ]
    refine' wpAnyH_take (i := 4) (oi := _) (v := undef) rfl (by kernel_rfl) (by kernel_rfl) (by kernel_rfl) (fun _ _ _ h => h) (Or.inr ⟨by rfl, rfl⟩) hH0 ?r4
    try simp only [Act.put, List.getElem_toArray, List.getElem_cons_succ, List.getElem_cons_zero, List.setIfInBounds_toArray, List.set_cons_zero, List.set_cons_succ]
    refine' wpAnyH_take (i := 5) (oi := _) (v := ?v5) rfl (by kernel_rfl) (by kernel_rfl) (by kernel_rfl) (fun _ _ _ h => h) (Or.inl ⟨by rfl, ?y5⟩) hH0 ?r5
    case y5 => (intro w hSw; (try dsimp only at hSw); go_simp; (try with_reducible rfl))
    try simp only [Act.put, List.getElem_toArray, List.getElem_cons_succ, List.getElem_cons_zero, List.setIfInBounds_toArray, List.set_cons_zero, List.set_cons_succ]
    refine' wpAnyH_take (i := 6) (oi := _) (v := ?v6) rfl (by kernel_rfl) (by kernel_rfl) (by kernel_rfl) (fun _ _ _ h => h) (Or.inl ⟨by rfl, ?y6⟩) hH0 ?r6
    case y6 => (intro w hSw; (try dsimp only at hSw); go_simp; (try with_reducible rfl))
    try simp only [Act.put, List.getElem_toArray, List.getElem_cons_succ, List.getElem_cons_zero, List.setIfInBounds_toArray, List.set_cons_zero, List.set_cons_succ]
    refine' wpAnyH_take (i := 7) (oi := _) (v := ?v7) rfl (by kernel_rfl) (by kernel_rfl) (by kernel_rfl) (fun _ _ _ h => h) (Or.inl ⟨by rfl, ?y7⟩) hH0 ?r7
    case y7 => (intro w hSw; (try dsimp only at hSw); go_simp; (try with_reducible rfl))
    try simp only [Act.put, List.getElem_toArray, List.getElem_cons_succ, List.getElem_cons_zero, List.setIfInBounds_toArray, List.set_cons_zero, List.set_cons_succ]
    refine' wpAnyH_take (i := 8) (oi := _) (v := ?v8) rfl (by kernel_rfl) (by kernel_rfl) (by kernel_rfl) (fun _ _ _ h => h) (Or.inl ⟨by rfl, ?y8⟩) hH0 ?r8
    case y8 => (intro w hSw; (try dsimp only at hSw); go_simp; (try with_reducible rfl))
    try simp only [Act.put, List.getElem_toArray, List.getElem_cons_succ, List.getElem_cons_zero, List.setIfInBounds_toArray, List.set_cons_zero, List.set_cons_succ]
    refine' wpAnyH_take (i := 9) (oi := _) (v := ?v9) rfl (by kernel_rfl) (by kernel_rfl) (by kernel_rfl) (fun _ _ _ h => h) (Or.inl ⟨by rfl, ?y9⟩) hH0 ?r9
    case y9 => (intro w hSw; (try dsimp only at hSw); go_simp; (try with_reducible rfl))
    try simp only [Act.put, List.getElem_toArray, List.getElem_cons_succ, List.getElem_cons_zero, List.setIfInBounds_toArray, List.set_cons_zero, List.set_cons_succ]
    refine' wpAnyH_take (i := 10) (oi := _) (v := ?v10) rfl (by kernel_rfl) (by kernel_rfl) (by kernel_rfl) (fun _ _ _ h => h) (Or.inl ⟨by rfl, ?y10⟩) hH0 ?r10
    case y10 => (intro w hSw; (try dsimp only at hSw); go_simp; (try with_reducible rfl))
    try simp only [Act.put, List.getElem_toArray, List.getElem_cons_succ, List.getElem_cons_zero, List.setIfInBounds_toArray, List.set_cons_zero, List.set_cons_succ]
    refine' wpAnyH_take (i := 11) (oi := _) (v := ?v11) rfl (by kernel_rfl) (by kernel_rfl) (by kernel_rfl) (fun _ _ _ h => h) (Or.inl ⟨by rfl, ?y11⟩) hH0 ?r11
    case y11 => (intro w hSw; (try dsimp only at hSw); go_simp; (try with_reducible rfl))
    try simp only [Act.put, List.getElem_toArray, List.getElem_cons_succ, List.getElem_cons_zero, List.setIfInBounds_toArray, List.set_cons_zero, List.set_cons_succ]
    refine' wpAnyH_take (i := 12) (oi := _) (v := ?v12) rfl (by kernel_rfl) (by kernel_rfl) (by kernel_rfl) (fun _ _ _ h => h) (Or.inl ⟨by rfl, ?y12⟩) hH0 ?r12
    case y12 => (intro w hSw; (try dsimp only at hSw); go_simp; (try with_reducible rfl))
    try simp only [Act.put, List.getElem_toArray, List.getElem_cons_succ, List.getElem_cons_zero, List.setIfInBounds_toArray, List.set_cons_zero, List.set_cons_succ]
    refine' wpAnyH_take (i := 13) (oi := _) (v := ?v13) rfl (by kernel_rfl) (by kernel_rfl) (by kernel_rfl) (fun _ _ _ h => h) (Or.inl ⟨by rfl, ?y13⟩) hH0 ?r13
    case y13 => (intro w hSw; (try dsimp only at hSw); go_simp; (try with_reducible rfl))
    try simp only [Act.put, List.getElem_toArray, List.getElem_cons_succ, List.getElem_cons_zero, List.setIfInBounds_toArray, List.set_cons_zero, List.set_cons_succ]
    refine' wpAnyH_take (i := 14) (oi := _) (v := ?v14) rfl (by kernel_rfl) (by kernel_rfl) (by kernel_rfl) (fun _ _ _ h => h) (Or.inl ⟨by rfl, ?y14⟩) hH0 ?r14
    case y14 => (intro w hSw; (try dsimp only at hSw); go_simp; (try with_reducible rfl))
    try simp only [Act.put, List.getElem_toArray, List.getElem_cons_succ, List.getElem_cons_zero, List.setIfInBounds_toArray, List.set_cons_zero, List.set_cons_succ]
    refine' wpAnyH_take (i := 15) (oi := _) (v := ?v15) rfl (by kernel_rfl) (by kernel_rfl) (by kernel_rfl) (fun _ _ _ h => h) (Or.inl ⟨by rfl, ?y15⟩) hH0 ?r15
    case y15 => (intro w hSw; (try dsimp only at hSw); go_simp; (try with_reducible rfl))
    try simp only [Act.put, List.getElem_toArray, List.getElem_cons_succ, List.getElem_cons_zero, List.setIfInBounds_toArray, List.set_cons_zero, List.set_cons_succ]
    refine' wpAnyH_take (i := 17) (oi := _) (v := ?v17) rfl (by kernel_rfl) (by kernel_rfl) (by kernel_rfl) (fun _ _ _ h => h) (Or.inl ⟨by rfl, ?y17⟩) hH0 ?r17
    case y17 => (intro w hSw; (try dsimp only at hSw); go_simp; (try with_reducible rfl))
    try simp only [Act.put, List.getElem_toArray, List.getElem_cons_succ, List.getElem_cons_zero, List.setIfInBounds_toArray, List.set_cons_zero, List.set_cons_succ]
    refine' wpAnyH_take (i := 18) (oi := _) (v := ?v18) rfl (by kernel_rfl) (by kernel_rfl) (by kernel_rfl) (fun _ _ _ h => h) (Or.inl ⟨by rfl, ?y18⟩) hH0 ?r18
    case y18 => (intro w hSw; (try dsimp only at hSw); go_simp; (try with_reducible rfl))
    try simp only [Act.put, List.getElem_toArray, List.getElem_cons_succ, List.getElem_cons_zero, List.setIfInBounds_toArray, List.set_cons_zero, List.set_cons_succ]
    refine wpAnyH_ready (rs := [16]) (by kernel_rfl) (by simp) ?_
    refine AllReadyH.cons (o := _) rfl (fun K hK => ?_) AllReadyH.nil
    go_simp
    go_at_call 27
    with_reducible refine (texts_text n L' _ HQ.out (texts_tab hH0)).mono ?_
    rintro e' w4 ⟨rfl, hb4⟩
    refine hK.out _ _ (texts_keep hl3 hb4 hH0) (fun hH1 => ?_)
    clear hK K
    try simp only [Act.put, List.getElem_toArray, List.getElem_cons_succ, List.getElem_cons_zero, List.setIfInBounds_toArray, List.set_cons_zero, List.set_cons_succ]
    refine' wpAnyH_take (i := 19) (oi := _) (v := ?v19) rfl (by kernel_rfl) (by kernel_rfl) (by kernel_rfl) (fun _ _ _ h => h) (Or.inl ⟨by rfl, ?y19⟩) hH1 ?r19
    case y19 => (intro w hSw; (try dsimp only at hSw); go_simp; (try with_reducible rfl))
    try simp only [Act.put, List.getElem_toArray, List.getElem_cons_succ, List.getElem_cons_zero, List.setIfInBounds_toArray, List.set_cons_zero, List.set_cons_succ]
    refine' wpAnyH_take (i := 20) (oi := _) (v := ?v20) rfl (by kernel_rfl) (by kernel_rfl) (by kernel_rfl) (fun _ _ _ h => h) (Or.inl ⟨by rfl, ?y20⟩) hH1 ?r20
    case y20 => (intro w hSw; (try dsimp only at hSw); go_simp; (try with_reducible rfl))
    try simp only [Act.put, List.getElem_toArray, List.getElem_cons_succ, List.getElem_cons_zero, List.setIfInBounds_toArray, List.set_cons_zero, List.set_cons_succ]
    refine' wpAnyH_take (i := 21) (oi := _) (v := ?v21) rfl (by kernel_rfl) (by kernel_rfl) (by kernel_rfl) (fun _ _ _ h => h) (Or.inl ⟨by rfl, ?y21⟩) hH1 ?r21
    case y21 => (intro w hSw; (try dsimp only at hSw); go_simp; (try with_reducible rfl))
    try simp only [Act.put, List.getElem_toArray, List.getElem_cons_succ, List.getElem_cons_zero, List.setIfInBounds_toArray, List.set_cons_zero, List.set_cons_succ]
    refine' wpAnyH_take (i := 22) (oi := _) (v := ?v22) rfl (by kernel_rfl) (by kernel_rfl) (by kernel_rfl) (fun _ _ _ h => h) (Or.inl ⟨by rfl, ?y22⟩) hH1 ?r22
    case y22 => (intro w hSw; (try dsimp only at hSw); go_simp; (try with_reducible rfl))
    try simp only [Act.put, List.getElem_toArray, List.getElem_cons_succ, List.getElem_cons_zero, List.setIfInBounds_toArray, List.set_cons_zero, List.set_cons_succ]
    refine wpAnyH_done (by kernel_rfl) ?_ _
    obtain ⟨_, _, hbel, _⟩ := hH1
    go_wp2_with fail
    go_ret
    exact ⟨rfl, hbel⟩

theorem texts_walk (a t c : Int) (w : World) (ht : Tab w) (a1 : 0 ≤ a) (a2 : a ≤ 4294967295) (t1 : 0 ≤ t) (t2 : t ≤ 255) (c1 : 0 ≤ c) (c2 : c ≤ 255) :
    Calls Tryd.prog 10 #[.int .u32 a, .int .u8 t, .int .u8 c] w fun e w' => e = .returned (.bool true) ∧ Below w.heap.size w w' := by
  have ec : ((UInt8.ofNat c.toNat).toNat : Int) = c := by rw [UInt8.toNat_ofNat']; omega
  have ek : t % 15 = ((t % 15).toNat : Int) := by omega
  have m1 : 0 ≤ a % 52596000 := by omega
  have m2 : a % 52596000 < 52596000 := by omega
  have hl : (str (textOf (a % 52596000))).size = 15 := by rw [str_size, textOf_in _ m1 m2]; rfl
  obtain ⟨n, e, hp⟩ : ∃ n e, parseE ((textOf (a % 52596000)).set (t % 15).toNat (UInt8.ofNat c.toNat)) = (n, e) := ⟨_, _, rfl⟩
  have := texts_core a t (a % 52596000) (t % 15) (t % 15).toNat (UInt8.ofNat c.toNat) (textOf (a % 52596000)) ((textOf (a % 52596000)).set (t % 15).toNat (UInt8.ofNat c.toNat)) w ht a1 a2 t1 t2 rfl rfl ek (by omega)
    rfl hl rfl n e hp _ rfl (by
      rw [str_toList, str_toList]
      generalize (textOf (a % 52596000)).set (t % 15).toNat (UInt8.ofNat c.toNat) = L' at *
      by_cases g : L' = textOf (a % 52596000)
      · subst g
        rw [parse_text _ m1 m2] at hp
        simp only [Prod.mk.injEq] at hp
        exact .inl ⟨by simp, hp.1.symm, hp.2.symm⟩
      · have gb : (L' == textOf (a % 52596000)) = false := by simpa using g
        rcases parse_c L' with h | ⟨h, h'⟩
        · rw [hp] at h
          simp only at h
          subst h
          have pb := parse_back L' n hp
          exact .inr (.inr ⟨gb, rfl, fun q => g (by rw [← q]; exact pb.2.2.symm), pb.2.2⟩)
        · rw [hp] at h h'
          exact .inr (.inl ⟨gb, h', h⟩))
  rw [ec] at this
  exact this

end Go.Proofs.YtbohogaopfkmlaaDoor

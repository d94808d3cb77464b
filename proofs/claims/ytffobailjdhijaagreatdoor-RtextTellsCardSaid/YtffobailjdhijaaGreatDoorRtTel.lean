/- RtextTells walked. -/
import Derived.Test.YtffobailjdhijaaGreatDoorRtPr
import Derived.Test.YtffobailjdhijaaGreatDoorRtRd
import Derived.Test.YtffobailjdhijaaGreatDoorRtN
import Derived.Deep.Cut
namespace Go.Proofs.YtffobailjdhijaaGreatDoor
open Go.RowKit Rul Rt Go.Sort

/-- the lists of a rule in memory, however long. -/
abbrev LaysR (w : World) (D : Option Addr) (dn : Nat) (M : Option Addr) (mn : Nat) (Y : Option Addr) (yn : Nat) (ds : List Wd) (ms ys : List Int) : Prop :=
  (dn = ds.length ∧ ds.length ≤ maxLen ∧ RowD w D ds) ∧ (mn = ms.length ∧ ms.length ≤ maxLen ∧ RowI w M ms) ∧ (yn = ys.length ∧ ys.length ≤ maxLen ∧ RowI w Y ys)
theorem laysR_lies {w : World} {D M Y : Option Addr} {dn mn yn : Nat} {ds : List Wd} {ms ys : List Int} (h : LaysR w D dn M mn Y yn ds ms ys) (k : (decide (dn ≤ 20) && decide (mn ≤ 20) && decide (yn ≤ 20)) = true) : Lies w D dn M mn Y yn ds ms ys := by
  simp only [Bool.and_eq_true, decide_eq_true_eq] at k
  obtain ⟨⟨a1, _, a3⟩, ⟨b1, _, b3⟩, ⟨c1, _, c3⟩⟩ := h
  exact ⟨a3, a1, by omega, b3, b1, by omega, c3, c1, by omega⟩
theorem boxes (w : World) (x0 : Value) (x1 : Value) (x2 : Value) (x3 : Value) (x4 : Value) (x5 : Value) (x6 : Value) (x7 : Value) (x8 : Value) (t u : TypeId) : let W := (w.alloc (.cells #[x0, x1, x2, x3, x4, x5, x6] t)).alloc (.cells #[x7, x8] u)
    W.cell? ⟨w.heap.size, 0, none⟩ = some x0 ∧ W.cell? ⟨w.heap.size, 1, none⟩ = some x1 ∧ W.cell? ⟨w.heap.size, 2, none⟩ = some x2 ∧ W.cell? ⟨w.heap.size, 3, none⟩ = some x3 ∧ W.cell? ⟨w.heap.size, 4, none⟩ = some x4 ∧ W.cell? ⟨w.heap.size, 5, none⟩ = some x5 ∧ W.cell? ⟨w.heap.size, 6, none⟩ = some x6 ∧ W.cell? ⟨w.heap.size + 1, 0, none⟩ = some x7 ∧ W.cell? ⟨w.heap.size + 1, 1, none⟩ = some x8 := by
  refine ⟨?_, ?_, ?_, ?_, ?_, ?_, ?_, ?_, ?_⟩
  iterate 7 (rw [World.cell?_alloc_past _ _ _ (by simp), World.cell?_alloc_at _ _ _ _ rfl]; rfl)
  all_goals (rw [World.cell?_alloc_at _ _ _ _ (by simp)]; rfl)

set_option linter.unusedVariables false in
set_option maxRecDepth 100000 in
set_option maxHeartbeats 4000000 in
theorem tells_few (fr ev ct un : Int) (D M Y : Option Addr) (dn dc mn mc yn yc : Nat) (ds : List Wd) (ms ys : List Int) (f t : Int) (x : ByteArray) (w : World) (he : Env w) (hf : (decide (dn ≤ 20) && decide (mn ≤ 20) && decide (yn ≤ 20)) = false) :
    Calls Tryz.prog 3 #[.agg #[.int .i64 fr, .int .i64 ev, .int .i64 ct, .int .i64 un, .slice D dn dc, .slice M mn mc, .slice Y yn yc], .agg #[.int .i64 f, .int .i64 t], .string x] w (Ans w (.bool true)) := by
  have HE := hide he
  clear he
  have q := boxes w (.int .i64 fr) (.int .i64 ev) (.int .i64 ct) (.int .i64 un) (.slice D dn dc) (.slice M mn mc) (.slice Y yn yc) (.int .i64 f) (.int .i64 t) 25 27
  have HB := hide (more (more (start w) (.cells #[.int .i64 fr, .int .i64 ev, .int .i64 ct, .int .i64 un, .slice D dn dc, .slice M mn mc, .slice Y yn yc] 25)) (.cells #[.int .i64 f, .int .i64 t] 27))
  obtain ⟨q0, q1, q2, q3, q4, q5, q6, q7, q8⟩ := q
  go_enter Tryz.func3, Tryz.ntmps3
  go_wp2_with fail
  refine (known_any _ (HE.out.keep HB.out)).mono ?_
  rintro e w1 ⟨rfl, hb1⟩
  replace HB := hide (andthen HB.out hb1)
  replace q0 := cell_keep hb1 q0
  replace q1 := cell_keep hb1 q1
  replace q2 := cell_keep hb1 q2
  replace q3 := cell_keep hb1 q3
  replace q4 := cell_keep hb1 q4
  replace q5 := cell_keep hb1 q5
  replace q6 := cell_keep hb1 q6
  replace q7 := cell_keep hb1 q7
  replace q8 := cell_keep hb1 q8
  clear hb1
  go_wp2_with fail
  refine (few_any fr ev ct un D M Y dn dc mn mc yn yc _).mono ?_
  rintro e w2 ⟨rfl, hb2⟩
  replace HB := hide (andthen HB.out hb2)
  replace q0 := cell_keep hb2 q0
  replace q1 := cell_keep hb2 q1
  replace q2 := cell_keep hb2 q2
  replace q3 := cell_keep hb2 q3
  replace q4 := cell_keep hb2 q4
  replace q5 := cell_keep hb2 q5
  replace q6 := cell_keep hb2 q6
  replace q7 := cell_keep hb2 q7
  replace q8 := cell_keep hb2 q8
  rw [hf]
  clear hb2
  go_wp2_with fail
  go_ret
  exact ⟨rfl, HB.out⟩
set_option linter.unusedVariables false in
set_option maxRecDepth 100000 in
set_option maxHeartbeats 4000000 in
theorem tells_long (fr ev ct un : Int) (D M Y : Option Addr) (dn dc mn mc yn yc : Nat) (ds : List Wd) (ms ys : List Int) (f t : Int) (x : ByteArray) (w : World) (he : Env w) (hf : (decide (dn ≤ 20) && decide (mn ≤ 20) && decide (yn ≤ 20)) = true) (hx : 200 < x.size) :
    Calls Tryz.prog 3 #[.agg #[.int .i64 fr, .int .i64 ev, .int .i64 ct, .int .i64 un, .slice D dn dc, .slice M mn mc, .slice Y yn yc], .agg #[.int .i64 f, .int .i64 t], .string x] w (Ans w (.bool true)) := by
  have HE := hide he
  clear he
  have q := boxes w (.int .i64 fr) (.int .i64 ev) (.int .i64 ct) (.int .i64 un) (.slice D dn dc) (.slice M mn mc) (.slice Y yn yc) (.int .i64 f) (.int .i64 t) 25 27
  have HB := hide (more (more (start w) (.cells #[.int .i64 fr, .int .i64 ev, .int .i64 ct, .int .i64 un, .slice D dn dc, .slice M mn mc, .slice Y yn yc] 25)) (.cells #[.int .i64 f, .int .i64 t] 27))
  obtain ⟨q0, q1, q2, q3, q4, q5, q6, q7, q8⟩ := q
  go_enter Tryz.func3, Tryz.ntmps3
  go_wp2_with fail
  refine (known_any _ (HE.out.keep HB.out)).mono ?_
  rintro e w1 ⟨rfl, hb1⟩
  replace HB := hide (andthen HB.out hb1)
  replace q0 := cell_keep hb1 q0
  replace q1 := cell_keep hb1 q1
  replace q2 := cell_keep hb1 q2
  replace q3 := cell_keep hb1 q3
  replace q4 := cell_keep hb1 q4
  replace q5 := cell_keep hb1 q5
  replace q6 := cell_keep hb1 q6
  replace q7 := cell_keep hb1 q7
  replace q8 := cell_keep hb1 q8
  clear hb1
  go_wp2_with fail
  refine (few_any fr ev ct un D M Y dn dc mn mc yn yc _).mono ?_
  rintro e w2 ⟨rfl, hb2⟩
  replace HB := hide (andthen HB.out hb2)
  replace q0 := cell_keep hb2 q0
  replace q1 := cell_keep hb2 q1
  replace q2 := cell_keep hb2 q2
  replace q3 := cell_keep hb2 q3
  replace q4 := cell_keep hb2 q4
  replace q5 := cell_keep hb2 q5
  replace q6 := cell_keep hb2 q6
  replace q7 := cell_keep hb2 q7
  replace q8 := cell_keep hb2 q8
  rw [hf]
  clear hb2
  have g1 : (200 : Int) < (x.size : Int) := by omega
  have g2 : decide ((200 : Int) < (x.size : Int)) = true := decide_eq_true g1
  have g3 : decide (200 < x.size) = true := decide_eq_true hx
  go_wp2_with fail
  go_ret
  exact ⟨rfl, HB.out⟩
set_option linter.unusedVariables false in
set_option maxRecDepth 100000 in
set_option maxHeartbeats 4000000 in
theorem tells_low (fr ev ct un : Int) (D M Y : Option Addr) (dn dc mn mc yn yc : Nat) (ds : List Wd) (ms ys : List Int) (f t : Int) (x : ByteArray) (w : World) (he : Env w) (hf : (decide (dn ≤ 20) && decide (mn ≤ 20) && decide (yn ≤ 20)) = true) (hx : ¬ 200 < x.size) (hn : f < -1000) :
    Calls Tryz.prog 3 #[.agg #[.int .i64 fr, .int .i64 ev, .int .i64 ct, .int .i64 un, .slice D dn dc, .slice M mn mc, .slice Y yn yc], .agg #[.int .i64 f, .int .i64 t], .string x] w (Ans w (.bool true)) := by
  have HE := hide he
  clear he
  have q := boxes w (.int .i64 fr) (.int .i64 ev) (.int .i64 ct) (.int .i64 un) (.slice D dn dc) (.slice M mn mc) (.slice Y yn yc) (.int .i64 f) (.int .i64 t) 25 27
  have HB := hide (more (more (start w) (.cells #[.int .i64 fr, .int .i64 ev, .int .i64 ct, .int .i64 un, .slice D dn dc, .slice M mn mc, .slice Y yn yc] 25)) (.cells #[.int .i64 f, .int .i64 t] 27))
  obtain ⟨q0, q1, q2, q3, q4, q5, q6, q7, q8⟩ := q
  go_enter Tryz.func3, Tryz.ntmps3
  go_wp2_with fail
  refine (known_any _ (HE.out.keep HB.out)).mono ?_
  rintro e w1 ⟨rfl, hb1⟩
  replace HB := hide (andthen HB.out hb1)
  replace q0 := cell_keep hb1 q0
  replace q1 := cell_keep hb1 q1
  replace q2 := cell_keep hb1 q2
  replace q3 := cell_keep hb1 q3
  replace q4 := cell_keep hb1 q4
  replace q5 := cell_keep hb1 q5
  replace q6 := cell_keep hb1 q6
  replace q7 := cell_keep hb1 q7
  replace q8 := cell_keep hb1 q8
  clear hb1
  go_wp2_with fail
  refine (few_any fr ev ct un D M Y dn dc mn mc yn yc _).mono ?_
  rintro e w2 ⟨rfl, hb2⟩
  replace HB := hide (andthen HB.out hb2)
  replace q0 := cell_keep hb2 q0
  replace q1 := cell_keep hb2 q1
  replace q2 := cell_keep hb2 q2
  replace q3 := cell_keep hb2 q3
  replace q4 := cell_keep hb2 q4
  replace q5 := cell_keep hb2 q5
  replace q6 := cell_keep hb2 q6
  replace q7 := cell_keep hb2 q7
  replace q8 := cell_keep hb2 q8
  rw [hf]
  clear hb2
  have g1 : ¬ (200 : Int) < (x.size : Int) := by omega
  have g2 : decide ((200 : Int) < (x.size : Int)) = false := decide_eq_false g1
  have g3 : decide (200 < x.size) = false := decide_eq_false (by omega)
  have g4 : decide (f < -1000) = true := decide_eq_true hn
  go_wp2_with fail
  go_ret
  exact ⟨rfl, HB.out⟩
set_option linter.unusedVariables false in
set_option maxRecDepth 100000 in
set_option maxHeartbeats 4000000 in
theorem tells_high (fr ev ct un : Int) (D M Y : Option Addr) (dn dc mn mc yn yc : Nat) (ds : List Wd) (ms ys : List Int) (f t : Int) (x : ByteArray) (w : World) (he : Env w) (hf : (decide (dn ≤ 20) && decide (mn ≤ 20) && decide (yn ≤ 20)) = true) (hx : ¬ 200 < x.size) (hn : ¬ f < -1000) (hm : 1000 < f) :
    Calls Tryz.prog 3 #[.agg #[.int .i64 fr, .int .i64 ev, .int .i64 ct, .int .i64 un, .slice D dn dc, .slice M mn mc, .slice Y yn yc], .agg #[.int .i64 f, .int .i64 t], .string x] w (Ans w (.bool true)) := by
  have HE := hide he
  clear he
  have q := boxes w (.int .i64 fr) (.int .i64 ev) (.int .i64 ct) (.int .i64 un) (.slice D dn dc) (.slice M mn mc) (.slice Y yn yc) (.int .i64 f) (.int .i64 t) 25 27
  have HB := hide (more (more (start w) (.cells #[.int .i64 fr, .int .i64 ev, .int .i64 ct, .int .i64 un, .slice D dn dc, .slice M mn mc, .slice Y yn yc] 25)) (.cells #[.int .i64 f, .int .i64 t] 27))
  obtain ⟨q0, q1, q2, q3, q4, q5, q6, q7, q8⟩ := q
  go_enter Tryz.func3, Tryz.ntmps3
  go_wp2_with fail
  refine (known_any _ (HE.out.keep HB.out)).mono ?_
  rintro e w1 ⟨rfl, hb1⟩
  replace HB := hide (andthen HB.out hb1)
  replace q0 := cell_keep hb1 q0
  replace q1 := cell_keep hb1 q1
  replace q2 := cell_keep hb1 q2
  replace q3 := cell_keep hb1 q3
  replace q4 := cell_keep hb1 q4
  replace q5 := cell_keep hb1 q5
  replace q6 := cell_keep hb1 q6
  replace q7 := cell_keep hb1 q7
  replace q8 := cell_keep hb1 q8
  clear hb1
  go_wp2_with fail
  refine (few_any fr ev ct un D M Y dn dc mn mc yn yc _).mono ?_
  rintro e w2 ⟨rfl, hb2⟩
  replace HB := hide (andthen HB.out hb2)
  replace q0 := cell_keep hb2 q0
  replace q1 := cell_keep hb2 q1
  replace q2 := cell_keep hb2 q2
  replace q3 := cell_keep hb2 q3
  replace q4 := cell_keep hb2 q4
  replace q5 := cell_keep hb2 q5
  replace q6 := cell_keep hb2 q6
  replace q7 := cell_keep hb2 q7
  replace q8 := cell_keep hb2 q8
  rw [hf]
  clear hb2
  have g1 : ¬ (200 : Int) < (x.size : Int) := by omega
  have g2 : decide ((200 : Int) < (x.size : Int)) = false := decide_eq_false g1
  have g3 : decide (200 < x.size) = false := decide_eq_false (by omega)
  have g4 : decide (f < -1000) = false := decide_eq_false (by omega)
  have g5 : decide (1000 < f) = true := decide_eq_true hm
  go_wp2_with fail
  go_ret
  exact ⟨rfl, HB.out⟩

set_option linter.unusedVariables false in
set_option maxRecDepth 100000 in
set_option maxHeartbeats 8000000 in
theorem tells_main (fr ev ct un : Int) (D M Y : Option Addr) (dn dc mn mc yn yc : Nat) (ds : List Wd) (ms ys : List Int) (f t : Int) (x : ByteArray) (w : World) (he : Env w) (hl : Lies w D dn M mn Y yn ds ms ys) (hf : (decide (dn ≤ 20) && decide (mn ≤ 20) && decide (yn ≤ 20)) = true) (hx : ¬ 200 < x.size) (hn : ¬ f < -1000) (hm : ¬ 1000 < f) :
    Calls Tryz.prog 3 #[.agg #[.int .i64 fr, .int .i64 ev, .int .i64 ct, .int .i64 un, .slice D dn dc, .slice M mn mc, .slice Y yn yc], .agg #[.int .i64 f, .int .i64 t], .string x] w (Ans w (.bool true)) := by
  have HL := hide hl
  have HP1 := hide (fun w hl ht => Print_any fr ev ct un D M Y dn dc mn mc yn yc ds ms ys w hl ht)
  have HP2 := hide (fun w hl => rPrint_any fr ev ct un D M Y dn dc mn mc yn yc ds ms ys w hl)
  have HD1 := hide (fun w ht => Day_any f t w (by unfold in64; omega) ht)
  have HD2 := hide (fun w => rDay_any f t w (by omega) (by omega))
  generalize printE unU ⟨fr, ev, ct, un, ds, ms, ys⟩ = S1 at *
  generalize dayT (f, t) = S2 at *
  have HPA := hide (fun w he => parse_any x w he (by omega))
  have HRA := hide (fun w => rread_any x w (by omega))
  rw [ans_agree] at HPA
  generalize ansR unU x.data.toList = O at *
  have s1 := str_tl S1
  have s2 := str_tl S2
  clear hl
  have HE := hide he
  clear he
  have q := boxes w (.int .i64 fr) (.int .i64 ev) (.int .i64 ct) (.int .i64 un) (.slice D dn dc) (.slice M mn mc) (.slice Y yn yc) (.int .i64 f) (.int .i64 t) 25 27
  have HB := hide (more (more (start w) (.cells #[.int .i64 fr, .int .i64 ev, .int .i64 ct, .int .i64 un, .slice D dn dc, .slice M mn mc, .slice Y yn yc] 25)) (.cells #[.int .i64 f, .int .i64 t] 27))
  obtain ⟨q0, q1, q2, q3, q4, q5, q6, q7, q8⟩ := q
  go_enter Tryz.func3, Tryz.ntmps3
  go_wp2_with fail
  refine (known_any _ (HE.out.keep HB.out)).mono ?_
  rintro e w1 ⟨rfl, hb1⟩
  replace HB := hide (andthen HB.out hb1)
  replace q0 := cell_keep hb1 q0
  replace q1 := cell_keep hb1 q1
  replace q2 := cell_keep hb1 q2
  replace q3 := cell_keep hb1 q3
  replace q4 := cell_keep hb1 q4
  replace q5 := cell_keep hb1 q5
  replace q6 := cell_keep hb1 q6
  replace q7 := cell_keep hb1 q7
  replace q8 := cell_keep hb1 q8
  clear hb1
  go_wp2_with fail
  refine (few_any fr ev ct un D M Y dn dc mn mc yn yc _).mono ?_
  rintro e w2 ⟨rfl, hb2⟩
  replace HB := hide (andthen HB.out hb2)
  replace q0 := cell_keep hb2 q0
  replace q1 := cell_keep hb2 q1
  replace q2 := cell_keep hb2 q2
  replace q3 := cell_keep hb2 q3
  replace q4 := cell_keep hb2 q4
  replace q5 := cell_keep hb2 q5
  replace q6 := cell_keep hb2 q6
  replace q7 := cell_keep hb2 q7
  replace q8 := cell_keep hb2 q8
  rw [hf]
  replace HL := hide (HL.out.keep HB.out)
  clear hb2
  have g1 : ¬ (200 : Int) < (x.size : Int) := by omega
  have g2 : decide ((200 : Int) < (x.size : Int)) = false := decide_eq_false g1
  have g3 : decide (200 < x.size) = false := decide_eq_false (by omega)
  have g4 : decide (f < -1000) = false := decide_eq_false (by omega)
  have g5 : decide (1000 < f) = false := decide_eq_false (by omega)
  go_wp2_with fail
  refine (HPA.out _ (HE.out.keep HB.out)).mono ?_
  rintro e w3 ⟨hb3, ⟨rfl, rfl⟩ | ⟨r2, Da, dna, dca, Ma, mna, mca, Ya, yna, yca, rfl, rfl, hla⟩⟩
  · clear g1 g2 g3 g4 g5 hx hn hm hf
    unfold noRule
    have hb3b := more hb3 (.cells #[.int .i64 0, .int .i64 0, .int .i64 0, .int .i64 0, .slice none 0 0, .slice none 0 0, .slice none 0 0] 25)
    replace HB := hide (andthen HB.out hb3b)
    replace q0 := cell_keep hb3b q0
    replace q1 := cell_keep hb3b q1
    replace q2 := cell_keep hb3b q2
    replace q3 := cell_keep hb3b q3
    replace q4 := cell_keep hb3b q4
    replace q5 := cell_keep hb3b q5
    replace q6 := cell_keep hb3b q6
    replace q7 := cell_keep hb3b q7
    replace q8 := cell_keep hb3b q8
    replace HL := hide (HL.out.keep hb3b)
    obtain ⟨Za, hZa⟩ : ∃ Z, w3.heap.size = Z := ⟨_, rfl⟩
    obtain ⟨a0, a1, a2, a3, a4, a5, a6⟩ := box_cells w3 25 (.int .i64 0) (.int .i64 0) (.int .i64 0) (.int .i64 0) (.slice none 0 0) (.slice none 0 0) (.slice none 0 0) hZa
    clear hb3 hb3b
    go_upto_region 6 with fail
    generalize w3.alloc (.cells #[.int .i64 0, .int .i64 0, .int .i64 0, .int .i64 0, .slice none 0 0, .slice none 0 0, .slice none 0 0] 25) = w4 at *
    go_wp2_with fail
    refine (HRA.out _).mono ?_
    rintro e w5 ⟨hb5, ⟨_, rfl⟩ | ⟨r3, Db, dnb, dcb, Mb, mnb, mcb, Yb, ynb, ycb, h, rfl, hrb⟩⟩
    rotate_left
    · cases h
    unfold noRule
    have hb5b := more hb5 (.cells #[.int .i64 0, .int .i64 0, .int .i64 0, .int .i64 0, .slice none 0 0, .slice none 0 0, .slice none 0 0] 25)
    replace HB := hide (andthen HB.out hb5b)
    replace q0 := cell_keep hb5b q0
    replace q1 := cell_keep hb5b q1
    replace q2 := cell_keep hb5b q2
    replace q3 := cell_keep hb5b q3
    replace q4 := cell_keep hb5b q4
    replace q5 := cell_keep hb5b q5
    replace q6 := cell_keep hb5b q6
    replace q7 := cell_keep hb5b q7
    replace q8 := cell_keep hb5b q8
    replace a0 := cell_keep hb5b a0
    replace a1 := cell_keep hb5b a1
    replace a2 := cell_keep hb5b a2
    replace a3 := cell_keep hb5b a3
    replace a4 := cell_keep hb5b a4
    replace a5 := cell_keep hb5b a5
    replace a6 := cell_keep hb5b a6
    replace HL := hide (HL.out.keep hb5b)
    obtain ⟨Zb, hZb⟩ : ∃ Z, w5.heap.size = Z := ⟨_, rfl⟩
    obtain ⟨b0, b1, b2, b3, b4, b5, b6⟩ := box_cells w5 25 (.int .i64 0) (.int .i64 0) (.int .i64 0) (.int .i64 0) (.slice none 0 0) (.slice none 0 0) (.slice none 0 0) hZb
    clear hb5 hb5b
    go_upto_region 7 with fail
    generalize w5.alloc (.cells #[.int .i64 0, .int .i64 0, .int .i64 0, .int .i64 0, .slice none 0 0, .slice none 0 0, .slice none 0 0] 25) = W at *
    have HT := hide (HE.out.keep HB.out).tab
    have eq0 := fun d os => cell_regrown q0 d os
    have eq1 := fun d os => cell_regrown q1 d os
    have eq2 := fun d os => cell_regrown q2 d os
    have eq3 := fun d os => cell_regrown q3 d os
    have eq4 := fun d os => cell_regrown q4 d os
    have eq5 := fun d os => cell_regrown q5 d os
    have eq6 := fun d os => cell_regrown q6 d os
    have eq7 := fun d os => cell_regrown q7 d os
    have eq8 := fun d os => cell_regrown q8 d os
    have ea0 := fun d os => cell_regrown a0 d os
    have ea1 := fun d os => cell_regrown a1 d os
    have ea2 := fun d os => cell_regrown a2 d os
    have ea3 := fun d os => cell_regrown a3 d os
    have ea4 := fun d os => cell_regrown a4 d os
    have ea5 := fun d os => cell_regrown a5 d os
    have ea6 := fun d os => cell_regrown a6 d os
    have eb0 := fun d os => cell_regrown b0 d os
    have eb1 := fun d os => cell_regrown b1 d os
    have eb2 := fun d os => cell_regrown b2 d os
    have eb3 := fun d os => cell_regrown b3 d os
    have eb4 := fun d os => cell_regrown b4 d os
    have eb5 := fun d os => cell_regrown b5 d os
    have eb6 := fun d os => cell_regrown b6 d os
    have L1 := hide (fun d os => Lies.keep HL.out (below_regrown W d os))
    have T1 := hide (fun d os => Tab.below HT.out (below_regrown W d os) (Nat.le_refl _))
    have hsm : sameB ⟨0, 0, 0, 0, [], [], []⟩ ⟨0, 0, 0, 0, [], [], []⟩ = true := by decide
    have HSM := hide (fun w h1 h2 => R.same_any 0 0 0 0 none none none 0 0 0 0 0 0 0 0 0 0 none none none 0 0 0 0 0 0 [] [] [] [] [] [] w h1 h2)
    rw [hsm] at HSM
    clear hsm q0 q1 q2 q3 q4 q5 q6 q7 q8 a0 a1 a2 a3 a4 a5 a6 b0 b1 b2 b3 b4 b5 b6
    refine wp_region_quiet_below (by kernel_rfl) (by kernel_rfl) ?_
    repeat (first | go_big_quiet_step ((first | (go_at_call 12; exact Calls.regrown_of (HP1.out _ (L1.out _ _) (T1.out _ _))) | (go_at_call 13; exact Calls.regrown_of (HP2.out _ (L1.out _ _))) | (go_at_call 14; exact Calls.regrown_of (HD1.out _ (T1.out _ _))) | (go_at_call 15; exact Calls.regrown_of (HD2.out _)) | (go_at_call 16; exact Calls.regrown_of (HSM.out _ (lies_once _) (lies_once _))))) | quiet_step ((first | (go_at_call 12; exact Calls.regrown_of (HP1.out _ (L1.out _ _) (T1.out _ _))) | (go_at_call 13; exact Calls.regrown_of (HP2.out _ (L1.out _ _))) | (go_at_call 14; exact Calls.regrown_of (HD1.out _ (T1.out _ _))) | (go_at_call 15; exact Calls.regrown_of (HD2.out _)) | (go_at_call 16; exact Calls.regrown_of (HSM.out _ (lies_once _) (lies_once _))))))
    refine wpQuiet_nil ?_
    intro _ hw'
    obtain ⟨⟨nq, osq⟩, hw''⟩ := hw'
    subst hw''
    replace HB := hide (andthen HB.out (below_regrown W nq osq))
    generalize grow (redrawn W nq) osq = W2 at *
    go_wp2_with fail
    go_ret
    exact ⟨rfl, HB.out⟩
  · clear g1 g2 g3 g4 g5 hx hn hm hf
    have HLA := hide hla
    clear hla
    obtain ⟨fr2, ev2, ct2, un2, ds2, ms2, ys2⟩ := r2
    simp only at HLA
    unfold ruleV
    simp only
    have hb3b := more hb3 (.cells #[.int .i64 fr2, .int .i64 ev2, .int .i64 ct2, .int .i64 un2, .slice Da dna dca, .slice Ma mna mca, .slice Ya yna yca] 25)
    replace HB := hide (andthen HB.out hb3b)
    replace q0 := cell_keep hb3b q0
    replace q1 := cell_keep hb3b q1
    replace q2 := cell_keep hb3b q2
    replace q3 := cell_keep hb3b q3
    replace q4 := cell_keep hb3b q4
    replace q5 := cell_keep hb3b q5
    replace q6 := cell_keep hb3b q6
    replace q7 := cell_keep hb3b q7
    replace q8 := cell_keep hb3b q8
    replace HLA := hide (HLA.out.keep (more (start w3) (.cells #[.int .i64 fr2, .int .i64 ev2, .int .i64 ct2, .int .i64 un2, .slice Da dna dca, .slice Ma mna mca, .slice Ya yna yca] 25)))
    replace HL := hide (HL.out.keep hb3b)
    obtain ⟨Za, hZa⟩ : ∃ Z, w3.heap.size = Z := ⟨_, rfl⟩
    obtain ⟨a0, a1, a2, a3, a4, a5, a6⟩ := box_cells w3 25 (.int .i64 fr2) (.int .i64 ev2) (.int .i64 ct2) (.int .i64 un2) (.slice Da dna dca) (.slice Ma mna mca) (.slice Ya yna yca) hZa
    clear hb3 hb3b
    go_upto_region 6 with fail
    generalize w3.alloc (.cells #[.int .i64 fr2, .int .i64 ev2, .int .i64 ct2, .int .i64 un2, .slice Da dna dca, .slice Ma mna mca, .slice Ya yna yca] 25) = w4 at *
    go_wp2_with fail
    refine (HRA.out _).mono ?_
    rintro e w5 ⟨hb5, ⟨h, _⟩ | ⟨r3, Db, dnb, dcb, Mb, mnb, mcb, Yb, ynb, ycb, h, rfl, hrb⟩⟩
    · cases h
    injection h with h
    subst h
    have HLB := hide hrb.lies
    simp only at HLB
    unfold ruleV
    simp only
    have hb5b := more hb5 (.cells #[.int .i64 fr2, .int .i64 ev2, .int .i64 ct2, .int .i64 un2, .slice Db dnb dcb, .slice Mb mnb mcb, .slice Yb ynb ycb] 25)
    replace HB := hide (andthen HB.out hb5b)
    replace q0 := cell_keep hb5b q0
    replace q1 := cell_keep hb5b q1
    replace q2 := cell_keep hb5b q2
    replace q3 := cell_keep hb5b q3
    replace q4 := cell_keep hb5b q4
    replace q5 := cell_keep hb5b q5
    replace q6 := cell_keep hb5b q6
    replace q7 := cell_keep hb5b q7
    replace q8 := cell_keep hb5b q8
    replace a0 := cell_keep hb5b a0
    replace a1 := cell_keep hb5b a1
    replace a2 := cell_keep hb5b a2
    replace a3 := cell_keep hb5b a3
    replace a4 := cell_keep hb5b a4
    replace a5 := cell_keep hb5b a5
    replace a6 := cell_keep hb5b a6
    replace HLB := hide (HLB.out.keep (more (start w5) (.cells #[.int .i64 fr2, .int .i64 ev2, .int .i64 ct2, .int .i64 un2, .slice Db dnb dcb, .slice Mb mnb mcb, .slice Yb ynb ycb] 25)))
    replace HLA := hide (HLA.out.keep hb5b)
    replace HL := hide (HL.out.keep hb5b)
    obtain ⟨Zb, hZb⟩ : ∃ Z, w5.heap.size = Z := ⟨_, rfl⟩
    obtain ⟨b0, b1, b2, b3, b4, b5, b6⟩ := box_cells w5 25 (.int .i64 fr2) (.int .i64 ev2) (.int .i64 ct2) (.int .i64 un2) (.slice Db dnb dcb) (.slice Mb mnb mcb) (.slice Yb ynb ycb) hZb
    clear hb5 hb5b
    go_upto_region 7 with fail
    generalize w5.alloc (.cells #[.int .i64 fr2, .int .i64 ev2, .int .i64 ct2, .int .i64 un2, .slice Db dnb dcb, .slice Mb mnb mcb, .slice Yb ynb ycb] 25) = W at *
    have HT := hide (HE.out.keep HB.out).tab
    have eq0 := fun d os => cell_regrown q0 d os
    have eq1 := fun d os => cell_regrown q1 d os
    have eq2 := fun d os => cell_regrown q2 d os
    have eq3 := fun d os => cell_regrown q3 d os
    have eq4 := fun d os => cell_regrown q4 d os
    have eq5 := fun d os => cell_regrown q5 d os
    have eq6 := fun d os => cell_regrown q6 d os
    have eq7 := fun d os => cell_regrown q7 d os
    have eq8 := fun d os => cell_regrown q8 d os
    have ea0 := fun d os => cell_regrown a0 d os
    have ea1 := fun d os => cell_regrown a1 d os
    have ea2 := fun d os => cell_regrown a2 d os
    have ea3 := fun d os => cell_regrown a3 d os
    have ea4 := fun d os => cell_regrown a4 d os
    have ea5 := fun d os => cell_regrown a5 d os
    have ea6 := fun d os => cell_regrown a6 d os
    have eb0 := fun d os => cell_regrown b0 d os
    have eb1 := fun d os => cell_regrown b1 d os
    have eb2 := fun d os => cell_regrown b2 d os
    have eb3 := fun d os => cell_regrown b3 d os
    have eb4 := fun d os => cell_regrown b4 d os
    have eb5 := fun d os => cell_regrown b5 d os
    have eb6 := fun d os => cell_regrown b6 d os
    have L1 := hide (fun d os => Lies.keep HL.out (below_regrown W d os))
    have T1 := hide (fun d os => Tab.below HT.out (below_regrown W d os) (Nat.le_refl _))
    have LA := hide (fun d os => Lies.keep HLA.out (below_regrown W d os))
    have LB := hide (fun d os => Lies.keep HLB.out (below_regrown W d os))
    have hsm : sameB ⟨fr2, ev2, ct2, un2, ds2, ms2, ys2⟩ ⟨fr2, ev2, ct2, un2, ds2, ms2, ys2⟩ = true := (sameB_iff _ _).2 rfl
    have HSM := hide (fun w h1 h2 => R.same_any fr2 ev2 ct2 un2 Da Ma Ya dna dca mna mca yna yca fr2 ev2 ct2 un2 Db Mb Yb dnb dcb mnb mcb ynb ycb ds2 ms2 ys2 ds2 ms2 ys2 w h1 h2)
    rw [hsm] at HSM
    clear hsm q0 q1 q2 q3 q4 q5 q6 q7 q8 a0 a1 a2 a3 a4 a5 a6 b0 b1 b2 b3 b4 b5 b6
    refine wp_region_quiet_below (by kernel_rfl) (by kernel_rfl) ?_
    repeat (first | go_big_quiet_step ((first | (go_at_call 12; exact Calls.regrown_of (HP1.out _ (L1.out _ _) (T1.out _ _))) | (go_at_call 13; exact Calls.regrown_of (HP2.out _ (L1.out _ _))) | (go_at_call 14; exact Calls.regrown_of (HD1.out _ (T1.out _ _))) | (go_at_call 15; exact Calls.regrown_of (HD2.out _)) | (go_at_call 16; exact Calls.regrown_of (HSM.out _ (LA.out _ _) (LB.out _ _))))) | quiet_step ((first | (go_at_call 12; exact Calls.regrown_of (HP1.out _ (L1.out _ _) (T1.out _ _))) | (go_at_call 13; exact Calls.regrown_of (HP2.out _ (L1.out _ _))) | (go_at_call 14; exact Calls.regrown_of (HD1.out _ (T1.out _ _))) | (go_at_call 15; exact Calls.regrown_of (HD2.out _)) | (go_at_call 16; exact Calls.regrown_of (HSM.out _ (LA.out _ _) (LB.out _ _))))))
    refine wpQuiet_nil ?_
    intro _ hw'
    obtain ⟨⟨nq, osq⟩, hw''⟩ := hw'
    subst hw''
    replace HB := hide (andthen HB.out (below_regrown W nq osq))
    generalize grow (redrawn W nq) osq = W2 at *
    go_wp2_with fail
    go_ret
    exact ⟨rfl, HB.out⟩

set_option linter.unusedVariables false in
theorem tells_any (fr ev ct un : Int) (D M Y : Option Addr) (dn dc mn mc yn yc : Nat) (ds : List Wd) (ms ys : List Int) (f t : Int) (x : ByteArray) (w : World) (he : Env w) (h : LaysR w D dn M mn Y yn ds ms ys) :
    Calls Tryz.prog 3 #[.agg #[.int .i64 fr, .int .i64 ev, .int .i64 ct, .int .i64 un, .slice D dn dc, .slice M mn mc, .slice Y yn yc], .agg #[.int .i64 f, .int .i64 t], .string x] w (Ans w (.bool true)) := by
  cases hf : (decide (dn ≤ 20) && decide (mn ≤ 20) && decide (yn ≤ 20))
  · exact tells_few fr ev ct un D M Y dn dc mn mc yn yc ds ms ys f t x w he hf
  · by_cases hx : 200 < x.size
    · exact tells_long fr ev ct un D M Y dn dc mn mc yn yc ds ms ys f t x w he hf hx
    · by_cases hn : f < -1000
      · exact tells_low fr ev ct un D M Y dn dc mn mc yn yc ds ms ys f t x w he hf hx hn
      · by_cases hm : 1000 < f
        · exact tells_high fr ev ct un D M Y dn dc mn mc yn yc ds ms ys f t x w he hf hx hn hm
        · exact tells_main fr ev ct un D M Y dn dc mn mc yn yc ds ms ys f t x w he (laysR_lies h hf) hf hx hn hm

end Go.Proofs.YtffobailjdhijaaGreatDoor

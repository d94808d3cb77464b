/- Walks of the document's texts: weekday. -/
import Derived.Test.YtffobailjdhijaaGreatDoorRtPut
import Derived.Test.YtffobailjdhijaaGreatDoorRtD
import Derived.Test.YtffobailjdhijaaGreatDoorRuG
import Derived.Deep.RegionHeld3
import Derived.Deep.Cut
namespace Go.Proofs.YtffobailjdhijaaGreatDoor
open Go.RowKit Rul Rt Go.Sort

/-- a weekday, or none. -/
def MayD (w : World) (o : Option Wd) (e : Ending) (w' : World) : Prop := Below w.heap.size w w' ∧ ∃ n d : Int, (∀ m, o = some m → (n, d) = m) ∧ e = .returned (.tuple #[.agg #[.int .i64 n, .int .i64 d], .bool o.isSome])
/-- the result's two cells, the weekday's two, what lies below. -/
structure WdW (w : World) (X : Nat) (n m : Int) (W : World) : Prop where
  r0 : W.cell? ⟨w.heap.size, 0, none⟩ = some (.int .i64 0)
  r1 : W.cell? ⟨w.heap.size, 1, none⟩ = some (.int .i64 0)
  x0 : W.cell? ⟨X, 0, none⟩ = some (.int .i64 n)
  x1 : W.cell? ⟨X, 1, none⟩ = some (.int .i64 m)
  fr0 : W.frozen? ⟨w.heap.size, 0, none⟩ = false
  fr1 : W.frozen? ⟨w.heap.size, 1, none⟩ = false
  fx0 : W.frozen? ⟨X, 0, none⟩ = false
  fx1 : W.frozen? ⟨X, 1, none⟩ = false
  gt : w.heap.size < X
  below : Below w.heap.size w W
theorem WdW.ltx {w W : World} {X : Nat} {n m : Int} (h : WdW w X n m W) : X < W.heap.size := block_lt_of_cell h.x0
theorem WdW.ltr {w W : World} {X : Nat} {n m : Int} (h : WdW w X n m W) : w.heap.size < W.heap.size := block_lt_of_cell h.r0
theorem WdW.keep {w W W1 : World} {X : Nat} {n m : Int} (h : WdW w X n m W) (hb : Below W.heap.size W W1) : WdW w X n m W1 :=
  ⟨cell_keep hb h.r0, cell_keep hb h.r1, cell_keep hb h.x0, cell_keep hb h.x1, (hb.frozen (p := ⟨w.heap.size, 0, none⟩) h.ltr).trans h.fr0, (hb.frozen (p := ⟨w.heap.size, 1, none⟩) h.ltr).trans h.fr1, (hb.frozen (p := ⟨X, 0, none⟩) h.ltx).trans h.fx0, (hb.frozen (p := ⟨X, 1, none⟩) h.ltx).trans h.fx1, h.gt, andthen h.below hb⟩
theorem wd_st {W : World} {b i : Nat} {x y : Value} (h : W.cell? ⟨b, i, none⟩ = some x) : (W.setCell ⟨b, i, none⟩ y).cell? ⟨b, i, none⟩ = some y := World.cell?_setCell_same _ _ _ h
theorem wd_ot {W : World} {b c i j : Nat} {x y : Value} (hn : b ≠ c ∨ i ≠ j) (h : W.cell? ⟨b, i, none⟩ = some x) : (W.setCell ⟨c, j, none⟩ y).cell? ⟨b, i, none⟩ = some x :=
  (World.cell?_setCell_other _ _ _ _ (by intro hc; injection hc with h1 h2; omega)).trans h
theorem wd_fz {W : World} {b c i j : Nat} {y : Value} (h : W.frozen? ⟨b, i, none⟩ = false) : (W.setCell ⟨c, j, none⟩ y).frozen? ⟨b, i, none⟩ = false := by rw [World.frozen?_setCell]; exact h
theorem WdW.set1 {w W : World} {X : Nat} {n m : Int} (h : WdW w X n m W) (k : Int) : WdW w X n k (W.setCell ⟨X, 1, none⟩ (.int .i64 k)) := by
  have := h.gt
  exact ⟨wd_ot (Or.inl (by omega)) h.r0, wd_ot (Or.inl (by omega)) h.r1, wd_ot (Or.inr (by omega)) h.x0, wd_st h.x1, wd_fz h.fr0, wd_fz h.fr1, wd_fz h.fx0, wd_fz h.fx1, h.gt, h.below.setCell (Nat.le_of_lt h.gt) _⟩
theorem WdW.set0 {w W : World} {X : Nat} {n m : Int} (h : WdW w X n m W) (k : Int) : WdW w X k m (W.setCell ⟨X, 0, none⟩ (.int .i64 k)) := by
  have := h.gt
  exact ⟨wd_ot (Or.inl (by omega)) h.r0, wd_ot (Or.inl (by omega)) h.r1, wd_st h.x0, wd_ot (Or.inr (by omega)) h.x1, wd_fz h.fr0, wd_fz h.fr1, wd_fz h.fx0, wd_fz h.fx1, h.gt, h.below.setCell (Nat.le_of_lt h.gt) _⟩
theorem wdW_new (w : World) (t : TypeId) (m : Int) : WdW w (w.heap.size + 1) 0 m ((w.alloc (.cells #[.int .i64 0, .int .i64 0] t)).alloc (.cells #[.int .i64 0, .int .i64 m] t)) := by
  refine ⟨?_, ?_, ?_, ?_, ?_, ?_, ?_, ?_, by omega, more (more (start _) _) _⟩
  · rw [World.cell?_alloc_past _ _ _ (by simp), World.cell?_alloc_at _ _ _ _ rfl]; rfl
  · rw [World.cell?_alloc_past _ _ _ (by simp), World.cell?_alloc_at _ _ _ _ rfl]; rfl
  · rw [World.cell?_alloc_at _ _ _ _ (by simp)]; rfl
  · rw [World.cell?_alloc_at _ _ _ _ (by simp)]; rfl
  all_goals simp
/-- the result stored. -/
def ResW (w : World) (n m : Int) (W : World) : Prop := W.cell? ⟨w.heap.size, 0, none⟩ = some (.int .i64 n) ∧ W.cell? ⟨w.heap.size, 1, none⟩ = some (.int .i64 m) ∧ Below w.heap.size w W
theorem WdW.res {w W : World} {X : Nat} {n m : Int} (h : WdW w X n m W) (a b : Int) : ResW w a b ((W.setCell ⟨w.heap.size, 0, none⟩ (.int .i64 a)).setCell ⟨w.heap.size, 1, none⟩ (.int .i64 b)) :=
  ⟨wd_ot (Or.inr (by omega)) (wd_st h.r0), wd_st (wd_ot (Or.inr (by omega)) h.r1), (h.below.setCell (Nat.le_refl _) _).setCell (Nat.le_refl _) _⟩
theorem resW_new (w : World) (t : TypeId) : ResW w 0 0 (w.alloc (.cells #[.int .i64 0, .int .i64 0] t)) := by
  refine ⟨?_, ?_, more (start _) _⟩
  all_goals (rw [World.cell?_alloc_at _ _ _ _ rfl]; rfl)
theorem wd_far {w : World} {p q i : Nat} {u x0 x1 : Value} (h : p < q) (c : w.cell? ⟨q, i, none⟩ = some u) :
    ((w.setCell ⟨p, 0, none⟩ x0).setCell ⟨p, 1, none⟩ x1).cell? ⟨q, i, none⟩ = some u := by
  repeat rw [World.cell?_setCell_other _ _ _ _ (by intro hc; injection hc with hc1; omega)]
  exact c
/-- which weekday stands at the text's end, of the first j. -/
def AtEnd (L : Tx) (j : Nat) (m : Int) : Prop := (m = -1 ∧ ∀ i, i < j → dayWs.getD i [] ≠ L) ∨ ∃ k : Nat, k < j ∧ k < 7 ∧ m = (k : Int) ∧ dayWs.getD k [] = L
theorem AtEnd.bd {L : Tx} {j : Nat} {m : Int} (h : AtEnd L j m) : -1 ≤ m ∧ m ≤ 6 := by
  rcases h with ⟨h, _⟩ | ⟨k, _, h, g, _⟩ <;> omega
theorem AtEnd.ix {L : Tx} {m : Int} (h : AtEnd L 7 m) : ixOf dayWs L = if 0 ≤ m then some m.toNat else none := by
  rcases h with ⟨rfl, h⟩ | ⟨k, _, h7, rfl, rfl⟩
  · rw [if_neg (by omega)]
    cases hx : ixOf dayWs L with
    | none => rfl
    | some k =>
      have h1 := ixOf_some hx
      have h2 : k < 7 := (List.getElem?_eq_some_iff.1 h1).1
      exact absurd (by rw [List.getD_eq_getElem?_getD, h1]; rfl) (h k h2)
  · rw [if_pos (by omega), Int.toNat_natCast]
    have : ∀ k : Nat, k < 7 → ixOf dayWs (dayWs.getD k []) = some k := by decide
    exact this k h7
theorem day_0 (j : Nat) (h : j < 7) : dayT (0, (j : Int)) = dayWs.getD j [] := by
  unfold dayT
  rw [if_pos (show 0 ≤ (j : Int) ∧ (j : Int) < 7 from ⟨by omega, by omega⟩), if_pos rfl, Int.toNat_natCast]; rfl
theorem dayWs_len (j : Nat) (h : j < 7) : (dayWs.getD j []).length = 2 := by
  have : ∀ k : Nat, k < 7 → (dayWs.getD k []).length = 2 := by decide
  exact this j h
theorem wdr_short (f : Tx → Option Int) (t : Tx) (h : t.length < 2) : wdWith f t = none := by
  have hx : ixOf dayWs (t.drop (t.length - 2)) = none := by
    cases hx : ixOf dayWs (t.drop (t.length - 2)) with
    | none => rfl
    | some k =>
      have h1 := ixOf_some hx
      have h7 : k < 7 := (List.getElem?_eq_some_iff.1 h1).1
      have hl := dayWs_len k h7
      rw [List.getD_eq_getElem?_getD, h1] at hl
      simp only [Option.getD_some, List.length_drop] at hl
      omega
  unfold wdWith; rw [hx]
theorem wdr_two (f : Tx → Option Int) (t : Tx) (m : Int) (hl : t.length = 2) (h : ixOf dayWs (t.drop (t.length - 2)) = if 0 ≤ m then some m.toNat else none) : wdWith f t = if 0 ≤ m then some (0, m) else none := by
  unfold wdWith
  rw [h]
  by_cases hm : 0 ≤ m
  · rw [if_pos hm, if_pos hm]
    simp only
    rw [if_pos hl, Int.toNat_of_nonneg hm]
  · rw [if_neg hm, if_neg hm]
theorem wdr_more (f : Tx → Option Int) (t : Tx) (m : Int) (hl : t.length ≠ 2) (h : ixOf dayWs (t.drop (t.length - 2)) = if 0 ≤ m then some m.toNat else none) : wdWith f t = match f (t.take (t.length - 2)) with
    | none => none
    | some n => if n = 0 then none else if 0 ≤ m then some (n, m) else none := by
  unfold wdWith
  rw [h]
  by_cases hm : 0 ≤ m
  · rw [if_pos hm]
    simp only
    rw [if_neg hl, Int.toNat_of_nonneg hm]
    cases f (t.take (t.length - 2)) with
    | none => rfl
    | some n => simp only; rw [if_pos hm]
  · rw [if_neg hm]
    simp only
    cases f (t.take (t.length - 2)) with
    | none => rfl
    | some n => simp only; rw [if_neg hm]; split <;> rfl
theorem mayD_if {w w' : World} {o : Option Wd} {n m : Int} (ho : o = if 0 ≤ m then some (n, m) else none) (hb : Below w.heap.size w w') : MayD w o (.returned (.tuple #[.agg #[.int .i64 n, .int .i64 m], .bool (decide (0 ≤ m))])) w' := by
  refine ⟨hb, n, m, fun x hx => ?_, ?_⟩
  · rw [ho] at hx
    split at hx
    · injection hx
    · cases hx
  · rw [ho]
    by_cases hm : 0 ≤ m
    · rw [if_pos hm, decide_eq_true hm]; rfl
    · rw [if_neg hm, decide_eq_false hm]; rfl


set_option maxRecDepth 100000 in
set_option maxHeartbeats 1000000 in
theorem rwday_short (s : ByteArray) (w : World) (hs : s.size < 2) :
    Calls Tryz.prog 79 #[.string s] w (MayD w (wdWith (decR · true) s.data.toList)) := by
  have HO := hide (wdr_short (decR · true) s.data.toList (by rw [len_of]; exact hs))
  rw [HO.out]
  have q : decide ((s.size : Int) < 2) = true := decide_eq_true (by omega)
  have HN := hide (resW_new w 27)
  go_enter Tryz.func79, Tryz.ntmps79
  go_wp2_with fail
  refine ret_gen (ResW w 0 0) HN.out ?_
  rintro WF ⟨c0, c1, hb⟩
  exact bodyPost_ret (v := .tuple #[.agg #[.int .i64 0, .int .i64 0], .bool false]) (by simp [results, Tryz.results79, go_sem, c0, c1]) rfl ⟨hb, 0, 0, fun m hm => (by cases hm), rfl⟩


set_option maxRecDepth 100000 in
set_option maxHeartbeats 4000000 in
theorem rwday_long (s : ByteArray) (w : World) (hs : 2 ≤ s.size) (hs2 : s.size ≤ 900) :
    Calls Tryz.prog 79 #[.string s] w (MayD w (wdWith (decR · true) s.data.toList)) := by
  obtain ⟨k, hk⟩ : ∃ k, s.size = k + 2 := ⟨s.size - 2, by omega⟩
  have HN := hide (wdW_new w 27 (-1))
  have q : decide ((s.size : Int) < 2) = false := decide_eq_false (by omega)
  have hk2 : (s.size : Int) - 2 = (k : Int) := by omega
  have hkz : (0 : Int) ≤ (k : Int) := by omega
  have hks : (k : Int) ≤ (s.size : Int) := by omega
  have hL := ext_end s k
  have hP := ext_str s 0 k
  rw [List.drop_zero] at hP
  have htl : s.data.toList.length - 2 = k := by rw [len_of]; omega
  have HTW := hide (fun m hl h => wdr_two (decR · true) s.data.toList m hl h)
  have HMO := hide (fun m hl h => wdr_more (decR · true) s.data.toList m hl h)
  rw [htl] at HTW HMO
  have hlen := len_of s
  have HD := hide (fun w => rDec_any (str (s.data.toList.take k)) true w (by rw [str_size, List.length_take]; omega))
  rw [str_list] at HD
  obtain ⟨O, hO⟩ : ∃ O, wdWith (decR · true) s.data.toList = O := ⟨_, rfl⟩
  rw [hO] at HTW HMO ⊢
  generalize s.data.toList.drop k = L at *
  generalize s.data.toList.take k = P at *
  rw [hk] at hL
  have HL := hide hL
  have HP := hide hP
  have q' : decide ((k : Int) + 2 < 2) = false := decide_eq_false (by omega)
  clear hL hP htl hO
  go_enter Tryz.func79, Tryz.ntmps79
  go_wp2_with fail
  obtain ⟨X, hX⟩ : ∃ X, w.heap.size + 1 = X := ⟨_, rfl⟩
  rw [hX] at HN ⊢
  generalize (w.alloc (.cells #[.int .i64 0, .int .i64 0] 27)).alloc (.cells #[.int .i64 0, .int .i64 (-1)] 27) = W0 at *
  go_loopw [5] (fun i wr => ∃ (j : Nat) (m : Int), j ≤ 7 ∧ i = .int .i64 j ∧ WdW w X 0 m wr ∧ Hid (AtEnd L j m)) (fun i _ => 7 - (intOf i).toNat)
  case atStart => exact ⟨0, -1, Nat.zero_le _, rfl, HN.out, hide (Or.inl ⟨rfl, fun i h => absurd h (Nat.not_lt_zero _)⟩)⟩
  case round =>
    obtain ⟨j, m, hj, rfl, hw, HA⟩ := hrel
    have HW := hide hw
    clear hw HN
    by_cases hlt : j < 7
    · have hi0 : (0 : Int) ≤ (j : Int) := by omega
      have hi1 : (j : Int) < 7 := by omega
      have HC := hide (fun w => rDay_any 0 (j : Int) w (by omega) (by omega))
      rw [day_0 j hlt] at HC
      have hl2 := dayWs_len j hlt
      by_cases hq : dayWs.getD j [] = L
      · have HN : Hid (AtEnd L (j + 1) (j : Int)) := hide (Or.inr ⟨j, by omega, hlt, rfl, hq⟩)
        have e : (dayWs.getD j [] == L) = true := by rw [tx_eq]; exact decide_eq_true hq
        generalize dayWs.getD j [] = D at *
        have q1 := str_tl D
        have q2 := str_tl L
        have hsL2 := HL.out
        clear hq
        go_wp2_with fail
        refine wp_region_quiet_below (by kernel_rfl) (by kernel_rfl) ?_
        repeat (first | go_big_quiet_step ((first | (go_at_call 15; exact Calls.regrown_of (HC.out _)))) | quiet_step ((first | (go_at_call 15; exact Calls.regrown_of (HC.out _)))))
        refine wpQuiet_nil ?_
        intro _ hw'
        obtain ⟨⟨nq, osq⟩, hw''⟩ := hw'
        subst hw''
        have hq2 := below_regrown wr nq osq
        generalize grow (redrawn wr nq) osq = wr2 at *
        replace HW := hide (HW.out.keep hq2)
        have x0 := HW.out.x0
        have x1 := HW.out.x1
        have f1 := HW.out.fx1
        clear hq2
        go_wp2_with fail
        go_roundw
        case rel => exact ⟨j + 1, (j : Int), by omega, by go_num, HW.out.set1 _, HN⟩
        case measure => simp [intOf]; omega
      · have HN : Hid (AtEnd L (j + 1) m) := hide (by
          rcases HA.out with ⟨h1, h2⟩ | ⟨k, h1, h2, h3, h4⟩
          · refine Or.inl ⟨h1, fun i hi => ?_⟩
            rcases Nat.lt_or_ge i j with g | g
            · exact h2 i g
            · obtain rfl : i = j := by omega
              exact hq
          · exact Or.inr ⟨k, by omega, h2, h3, h4⟩)
        have e : (dayWs.getD j [] == L) = false := by rw [tx_eq]; exact decide_eq_false hq
        generalize dayWs.getD j [] = D at *
        have q1 := str_tl D
        have q2 := str_tl L
        have hsL2 := HL.out
        clear hq
        go_wp2_with fail
        refine wp_region_quiet_below (by kernel_rfl) (by kernel_rfl) ?_
        repeat (first | go_big_quiet_step ((first | (go_at_call 15; exact Calls.regrown_of (HC.out _)))) | quiet_step ((first | (go_at_call 15; exact Calls.regrown_of (HC.out _)))))
        refine wpQuiet_nil ?_
        intro _ hw'
        obtain ⟨⟨nq, osq⟩, hw''⟩ := hw'
        subst hw''
        have hq2 := below_regrown wr nq osq
        generalize grow (redrawn wr nq) osq = wr2 at *
        replace HW := hide (HW.out.keep hq2)
        clear hq2
        go_wp2_with fail
        go_roundw
        case rel => exact ⟨j + 1, m, by omega, by go_num, HW.out, HN⟩
        case measure => simp [intOf]; omega
    · obtain rfl : j = 7 := by omega
      have hix := HA.out.ix
      have hbd := HA.out.bd
      have x0 := HW.out.x0
      have x1 := HW.out.x1
      have r0 := HW.out.r0
      have r1 := HW.out.r1
      have fr0 := HW.out.fr0
      have fr1 := HW.out.fr1
      have fx0 := HW.out.fx0
      have gt := HW.out.gt
      by_cases h2 : k = 0
      · have HF := hide (HTW.out m (by omega) hix)
        have g2 : decide ((2 : Int) < (k : Int) + 2) = false := decide_eq_false (by omega)
        clear hix h2
        go_wp2_with fail
        go_region_held3 (fun w' => w'.cell? ⟨X, 0, none⟩ = some (.int .i64 0) ∧ w'.cell? ⟨X, 1, none⟩ = some (.int .i64 m)) (first | with_reducible exact ⟨cell_keep (start _).drew x0, cell_keep (start _).drew x1⟩ | with_reducible exact ⟨wd_far gt x0, wd_far gt x1⟩ | with_reducible exact ⟨cell_keep (start _).drew (wd_far gt x0), cell_keep (start _).drew (wd_far gt x1)⟩ | with_reducible exact ⟨wd_far gt (by assumption), wd_far gt (by assumption)⟩ | with_reducible exact ⟨cell_keep (start _).drew (by assumption), cell_keep (start _).drew (by assumption)⟩) (fail)
        go_wp2_with fail
        refine ret_gen (ResW w 0 m) (HW.out.keep (start _).drew |>.res 0 m) ?_
        rintro WF ⟨c0, c1, hb⟩
        exact bodyPost_ret (v := .tuple #[.agg #[.int .i64 0, .int .i64 m], .bool (decide (0 ≤ m))]) (by simp [results, Tryz.results79, go_sem, c0, c1]) rfl (mayD_if HF.out hb)
      · have hmo := HMO.out m (by omega) hix
        have g2 : decide ((2 : Int) < (k : Int) + 2) = true := decide_eq_true (by omega)
        have hsP2 := HP.out
        clear hix h2
        cases hd : decR P true with
        | none =>
          rw [hd] at hmo
          rw [decA_none hd] at HD
          have HF : Hid (O = none) := hide hmo
          clear hmo hd
          go_wp2_with fail
          refine (HD.out _).mono ?_
          rintro e w2 ⟨rfl, rfl⟩
          go_wp2_with fail
          refine ret_gen (ResW w 0 m) (HW.out.res 0 m) ?_
          rintro WF ⟨c0, c1, hb⟩
          exact bodyPost_ret (v := .tuple #[.agg #[.int .i64 0, .int .i64 m], .bool false]) (by simp [results, Tryz.results79, go_sem, c0, c1]) rfl ⟨hb, 0, m, fun x hx => (by rw [HF.out] at hx; cases hx), by rw [HF.out]; rfl⟩
        | some n =>
          rw [hd] at hmo
          rw [decA_some hd] at HD
          simp only at hmo
          clear hd
          by_cases hn : n = 0
          · rw [if_pos hn] at hmo
            have HF : Hid (O = none) := hide hmo
            have qn : (n == 0) = true := beq_iff_eq.2 hn
            clear hmo hn
            go_wp2_with fail
            refine (HD.out _).mono ?_
            rintro e w2 ⟨rfl, rfl⟩
            go_wp2_with fail
            refine ret_gen (ResW w 0 m) (HW.out.res 0 m) ?_
            rintro WF ⟨c0, c1, hb⟩
            exact bodyPost_ret (v := .tuple #[.agg #[.int .i64 0, .int .i64 m], .bool false]) (by simp [results, Tryz.results79, go_sem, c0, c1]) rfl ⟨hb, 0, m, fun x hx => (by rw [HF.out] at hx; cases hx), by rw [HF.out]; rfl⟩
          · rw [if_neg hn] at hmo
            have HF := hide hmo
            have qn : (n == 0) = false := beq_eq_false_iff_ne.2 hn
            clear hmo hn
            go_wp2_with fail
            refine (HD.out _).mono ?_
            rintro e w2 ⟨rfl, rfl⟩
            go_upto_region 14 with fail
            have hW := HW.out.set0 n
            have x0 := hW.x0
            have x1 := hW.x1
            have fr0 := hW.fr0
            have fr1 := hW.fr1
            have r0 := hW.r0
            have r1 := hW.r1
            replace HW := hide hW
            generalize wr.setCell ⟨X, 0, none⟩ (.int .i64 n) = w2 at *
            clear hW
            go_region_held3 (fun w' => w'.cell? ⟨X, 0, none⟩ = some (.int .i64 n) ∧ w'.cell? ⟨X, 1, none⟩ = some (.int .i64 m)) (first | with_reducible exact ⟨cell_keep (start _).drew x0, cell_keep (start _).drew x1⟩ | with_reducible exact ⟨wd_far gt x0, wd_far gt x1⟩ | with_reducible exact ⟨cell_keep (start _).drew (wd_far gt x0), cell_keep (start _).drew (wd_far gt x1)⟩ | with_reducible exact ⟨wd_far gt (by assumption), wd_far gt (by assumption)⟩ | with_reducible exact ⟨cell_keep (start _).drew (by assumption), cell_keep (start _).drew (by assumption)⟩) (fail)
            go_wp2_with fail
            refine ret_gen (ResW w n m) (HW.out.keep (start _).drew |>.res n m) ?_
            rintro WF ⟨c0, c1, hb⟩
            exact bodyPost_ret (v := .tuple #[.agg #[.int .i64 n, .int .i64 m], .bool (decide (0 ≤ m))]) (by simp [results, Tryz.results79, go_sem, c0, c1]) rfl (mayD_if HF.out hb)


theorem rwday_any (s : ByteArray) (w : World) (hs : s.size ≤ 900) :
    Calls Tryz.prog 79 #[.string s] w (MayD w (wdWith (decR · true) s.data.toList)) := by
  by_cases h : s.size < 2
  · exact rwday_short s w h
  · exact rwday_long s w (by omega) hs

end Go.Proofs.YtffobailjdhijaaGreatDoor

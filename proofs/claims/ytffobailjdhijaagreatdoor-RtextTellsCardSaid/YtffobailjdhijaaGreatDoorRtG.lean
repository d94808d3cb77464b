/- Walks of package rtext, the smaller calls: numbers, minutes, weekdays, frequencies as texts. -/
import Derived.Test.YtffobailjdhijaaGreatDoorRtF
import Derived.Deep.RegionHeld3
namespace Go.Proofs.YtffobailjdhijaaGreatDoor
open Go.RowKit Rul Rt Go.Sort

theorem str_tl2 (s : ByteArray) : s.toList = s.data.toList := by rw [ByteArray.toList_eq]
/-- two cells of a block that are written anew. -/
abbrev Two2 (w : World) (p : Nat) (x0 x1 : Value) (W : World) : Prop := W.cell? ⟨p, 0, none⟩ = some x0 ∧ W.cell? ⟨p, 1, none⟩ = some x1 ∧ Below w.heap.size w W
theorem two_set {w W : World} {x0 x1 y0 y1 : Value} (h : Two2 w w.heap.size x0 x1 W) : Two2 w w.heap.size y0 y1 ((W.setCell ⟨w.heap.size, 0, none⟩ y0).setCell ⟨w.heap.size, 1, none⟩ y1) := by
  obtain ⟨c0, c1, hb⟩ := h
  have st : ∀ {W : World} {i : Nat} {x y : Value}, W.cell? ⟨w.heap.size, i, none⟩ = some x → (W.setCell ⟨w.heap.size, i, none⟩ y).cell? ⟨w.heap.size, i, none⟩ = some y := fun h => World.cell?_setCell_same _ _ _ h
  have ot : ∀ {W : World} {i j : Nat} {x y : Value}, i ≠ j → W.cell? ⟨w.heap.size, i, none⟩ = some x → (W.setCell ⟨w.heap.size, j, none⟩ y).cell? ⟨w.heap.size, i, none⟩ = some x := fun hn h =>
    (World.cell?_setCell_other _ _ _ _ (by intro hc; injection hc with _ hc1; omega)).trans h
  have be : ∀ {W : World} {j : Nat} {y : Value}, Below w.heap.size w W → Below w.heap.size w (W.setCell ⟨w.heap.size, j, none⟩ y) := fun h => h.setCell (Nat.le_refl _) _
  exact ⟨ot (by omega) (st c0), st (ot (by omega) c1), be (be hb)⟩
theorem Two2.keep {w W W1 : World} {p : Nat} {x0 x1 : Value} (h : Two2 w p x0 x1 W) (hb : Below W.heap.size W W1) : Two2 w p x0 x1 W1 := ⟨cell_keep hb h.1, cell_keep hb h.2.1, andthen h.2.2 hb⟩

/-- a number, or none. -/
def optA (o : Option Int) : Value := .tuple #[.int .i64 (o.getD 0), .bool o.isSome]
theorem optA_none {o : Option Int} (h : o = none) : optA o = .tuple #[.int .i64 0, .bool false] := by rw [h]; rfl
theorem optA_some {o : Option Int} {n : Int} (h : o = some n) : optA o = .tuple #[.int .i64 n, .bool true] := by rw [h]; rfl

set_option maxRecDepth 100000 in
set_option maxHeartbeats 1000000 in
theorem numT_any (t : ByteArray) (w : World) (he : Env w) (ht : t.size ≤ 100000) :
    Calls Tryz.prog 67 #[.string t] w (Ans w (optA (numC t.data.toList))) := by
  have HE := hide he
  clear he
  have q2 := str_tl2 t
  go_enter Tryz.func67, Tryz.ntmps67
  go_wp2_with fail
  refine (atoi_all t _ HE.out ht).mono ?_
  rintro e w1 ⟨hb, ⟨n, ha, hin, rfl⟩ | ⟨ha, n, te, pe, rfl⟩⟩
  · have HB := hide hb
    have HT := hide ((HE.out.keep hb).tab)
    have q1 := str_tl (Lib.itoa n)
    by_cases hq : Lib.itoa n = t.data.toList
    · have HN : Hid (optA (numC t.data.toList) = .tuple #[.int .i64 n, .bool true]) := hide (optA_some (by unfold numC; rw [ha]; simp only; rw [if_pos hq]))
      have q3 : (Lib.itoa n == t.data.toList) = true := by rw [tx_eq, decide_eq_true hq]
      have HI := hide (fun w ht => itoa_all n w hin ht)
      generalize Lib.itoa n = L at *
      clear hq ha hb hin
      go_wp2_with fail
      refine (HI.out _ HT.out).mono ?_
      rintro e w2 ⟨rfl, hb2⟩
      replace HB := hide (andthen HB.out hb2)
      go_wp2_with fail
      go_ret2
      exact ⟨by rw [HN.out]; rfl, HB.out⟩
    · have HN : Hid (optA (numC t.data.toList) = .tuple #[.int .i64 0, .bool false]) := hide (optA_none (by unfold numC; rw [ha]; simp only; rw [if_neg hq]))
      have q3 : (Lib.itoa n == t.data.toList) = false := by rw [tx_eq, decide_eq_false hq]
      have HI := hide (fun w ht => itoa_all n w hin ht)
      generalize Lib.itoa n = L at *
      clear hq ha hb hin
      go_wp2_with fail
      refine (HI.out _ HT.out).mono ?_
      rintro e w2 ⟨rfl, hb2⟩
      replace HB := hide (andthen HB.out hb2)
      go_wp2_with fail
      go_ret2
      exact ⟨by rw [HN.out]; rfl, HB.out⟩
  · have HB := hide hb
    have HN : Hid (optA (numC t.data.toList) = .tuple #[.int .i64 0, .bool false]) := hide (optA_none (by
      unfold numC
      split
      · rename_i v hv; exact absurd hv (ha v)
      · rfl))
    clear ha hb
    go_wp2_with fail
    go_ret2
    exact ⟨by rw [HN.out]; rfl, HB.out⟩
theorem numT_is (t : ByteArray) (o : Option Int) (w : World) (he : Env w) (ht : t.size ≤ 100000) (h : numC t.data.toList = o) :
    Calls Tryz.prog 67 #[.string t] w (Ans w (optA o)) := by subst h; exact numT_any t w he ht

/-- the answer and whether it is one; what is told where there is none is left open. -/
def MayI (w : World) (o : Option Int) (e : Ending) (w' : World) : Prop := ∃ n : Int, (∀ m, o = some m → n = m) ∧ e = .returned (.tuple #[.int .i64 n, .bool o.isSome]) ∧ Below w.heap.size w w'

set_option maxRecDepth 100000 in
set_option maxHeartbeats 1000000 in
theorem positive_any (t : ByteArray) (w : World) (he : Env w) (ht : t.size ≤ 100000) :
    Calls Tryz.prog 64 #[.string t] w (MayI w (posOf numC t.data.toList)) := by
  have HE := hide he
  clear he
  cases ho : numC t.data.toList with
  | none =>
    have HP : Hid (posOf numC t.data.toList = none) := hide (by unfold posOf; rw [ho])
    have HO := hide ho
    clear ho
    go_enter Tryz.func64, Tryz.ntmps64
    go_wp2_with fail
    refine (numT_is t none _ HE.out ht HO.out).mono ?_
    rintro e w1 ⟨rfl, hb⟩
    unfold optA
    go_wp2_with fail
    go_ret2
    exact ⟨0, fun m hm => (by rw [HP.out] at hm; cases hm), by rw [HP.out]; rfl, hb⟩
  | some n =>
    have HO := hide ho
    by_cases hn : 0 < n
    · have HP : Hid (posOf numC t.data.toList = some n) := hide (by unfold posOf; rw [ho]; simp only; rw [if_pos hn])
      clear ho
      go_enter Tryz.func64, Tryz.ntmps64
      go_wp2_with fail
      refine (numT_is t (some n) _ HE.out ht HO.out).mono ?_
      rintro e w1 ⟨rfl, hb⟩
      unfold optA
      go_wp2_with fail
      go_ret2
      exact ⟨n, fun m hm => (by rw [HP.out] at hm; injection hm), by rw [HP.out]; rfl, hb⟩
    · have HP : Hid (posOf numC t.data.toList = none) := hide (by unfold posOf; rw [ho]; simp only; rw [if_neg hn])
      have hd : decide (0 < n) = false := decide_eq_false hn
      clear ho
      go_enter Tryz.func64, Tryz.ntmps64
      go_wp2_with fail
      refine (numT_is t (some n) _ HE.out ht HO.out).mono ?_
      rintro e w1 ⟨rfl, hb⟩
      unfold optA
      go_wp2_with fail
      go_ret2
      exact ⟨n, fun m hm => (by rw [HP.out] at hm; cases hm), by rw [HP.out]; rfl, hb⟩

/-- a minute's text. -/
def unE (t : Tx) : Option Int := if (parseE t).2 = 0 then some (parseE t).1 else none
theorem parse_at (t : ByteArray) (n e : Int) (w : World) (h : parseE t.data.toList = (n, e)) :
    Calls Tryz.prog 92 #[.string t] w (Ans w (.tuple #[.int .i64 n, .int .i64 e])) := by
  have := Parse_any t w
  rw [h] at this
  exact this
set_option maxHeartbeats 400000 in
theorem minute_any (t : ByteArray) (w : World) :
    Calls Tryz.prog 65 #[.string t] w (MayI w (unE t.data.toList)) := by
  obtain ⟨n, e, h⟩ : ∃ n e, parseE t.data.toList = (n, e) := ⟨_, _, rfl⟩
  have H := hide h
  have HU : Hid (unE t.data.toList = if e = 0 then some n else none) := hide (by unfold unE; rw [h])
  clear h
  go_enter Tryz.func65, Tryz.ntmps65
  go_wp2_with fail
  refine (parse_at t n e _ H.out).mono ?_
  rintro e1 w1 ⟨rfl, hb⟩
  go_wp2_with fail
  go_ret2
  refine ⟨n, fun m hm => ?_, ?_, hb⟩
  · rw [HU.out] at hm; split at hm; injection hm; cases hm
  · rw [HU.out]
    by_cases h0 : e = 0
    · subst h0; rfl
    · rw [if_neg h0, beq_eq_false_iff_ne.2 h0]; rfl

/-- what is ahead of a weekday. -/
def posW (t : Tx) : Option Int := if t = [] then some 0 else match numC t with
  | none => none
  | some n => if n = 0 then none else some n
set_option maxRecDepth 100000 in
set_option maxHeartbeats 1000000 in
theorem position_any (t : ByteArray) (w : World) (he : Env w) (ht : t.size ≤ 100000) :
    Calls Tryz.prog 98 #[.string t] w (MayI w (posW t.data.toList)) := by
  have HE := hide he
  clear he
  have q2 := str_tl2 t
  by_cases h0 : t.data.toList = []
  · have HP : Hid (posW t.data.toList = some 0) := hide (by unfold posW; rw [if_pos h0])
    have q3 : t.data.toList.isEmpty = true := by rw [h0]; rfl
    clear h0
    go_enter Tryz.func98, Tryz.ntmps98
    go_wp2_with fail
    go_ret2
    exact ⟨0, fun m hm => (by rw [HP.out] at hm; injection hm), by rw [HP.out]; rfl, start _⟩
  · have q3 : t.data.toList.isEmpty = false := by cases h : t.data.toList with | nil => exact absurd h h0 | cons _ _ => rfl
    cases ho : numC t.data.toList with
    | none =>
      have HP : Hid (posW t.data.toList = none) := hide (by unfold posW; rw [if_neg h0, ho])
      have HO := hide ho
      clear ho h0
      go_enter Tryz.func98, Tryz.ntmps98
      go_wp2_with fail
      refine (numT_is t none _ HE.out ht HO.out).mono ?_
      rintro e w1 ⟨rfl, hb⟩
      unfold optA
      go_wp2_with fail
      go_ret2
      exact ⟨0, fun m hm => (by rw [HP.out] at hm; cases hm), by rw [HP.out]; rfl, hb⟩
    | some n =>
      have HO := hide ho
      by_cases hn : n = 0
      · have HP : Hid (posW t.data.toList = none) := hide (by unfold posW; rw [if_neg h0, ho]; simp only; rw [if_pos hn])
        have hd : (n != 0) = false := by rw [hn]; rfl
        clear ho h0 hn
        go_enter Tryz.func98, Tryz.ntmps98
        go_wp2_with fail
        refine (numT_is t (some n) _ HE.out ht HO.out).mono ?_
        rintro e w1 ⟨rfl, hb⟩
        unfold optA
        go_wp2_with fail
        go_ret2
        exact ⟨n, fun m hm => (by rw [HP.out] at hm; cases hm), by rw [HP.out]; rfl, hb⟩
      · have HP : Hid (posW t.data.toList = some n) := hide (by unfold posW; rw [if_neg h0, ho]; simp only; rw [if_neg hn])
        have hd : (n != 0) = true := by rw [bne_iff_ne]; exact hn
        clear ho h0 hn
        go_enter Tryz.func98, Tryz.ntmps98
        go_wp2_with fail
        refine (numT_is t (some n) _ HE.out ht HO.out).mono ?_
        rintro e w1 ⟨rfl, hb⟩
        unfold optA
        go_wp2_with fail
        go_ret2
        exact ⟨n, fun m hm => (by rw [HP.out] at hm; injection hm), by rw [HP.out]; rfl, hb⟩

end Go.Proofs.YtffobailjdhijaaGreatDoor

/- RuA; RuB of the recipes, what is needed of them. -/
import Derived.WalkSpells
import Derived.WalkLawsBesides
import Derived.Lib.QuietBelow
import Derived.Deep.RegionHeld3
import Derived.Deep.DrawnRows
import Derived.Test.YtlmdceeeahnkcaaGreatDoorBW1
import Derived.Test.YtlmdceeeahnkcaaGreatDoorBM1
namespace Go.Proofs.YtlmdceeeahnkcaaGreatDoor
open Go.RowKit Rul

theorem below_drawn {B : Nat} {a w : World} (h : Below B a w) (n : Nat) : Below B a (w.drewN n) := ⟨h.os, h.tape, h.output, h.size, h.block⟩
theorem more {a w : World} (h : Below a.heap.size a w) (o : Obj) : Below a.heap.size a (w.alloc o) := h.alloc h.size o
theorem andthen {a b c : World} (h : Below a.heap.size a b) (k : Below b.heap.size b c) : Below a.heap.size a c := h.trans (k.mono h.size)
theorem start (a : World) : Below a.heap.size a a := Below.refl _ _
theorem old {W w1 : World} {B : Nat} (hb : Below B W w1) : (∀ b o, b < B → w1.cell? ⟨b, o, none⟩ = W.cell? ⟨b, o, none⟩) ∧ (∀ b o, b < B → w1.frozen? ⟨b, o, none⟩ = W.frozen? ⟨b, o, none⟩) :=
  ⟨fun b o h => hb.cell (p := ⟨b, o, none⟩) h, fun b o h => hb.frozen (p := ⟨b, o, none⟩) h⟩
theorem cell_keep {a b : World} {X k : Nat} {v : Value} (h : Below a.heap.size a b) (c : a.cell? ⟨X, k, none⟩ = some v) : b.cell? ⟨X, k, none⟩ = some v :=
  (h.cell (p := ⟨X, k, none⟩) (block_lt_of_cell c)).trans c
/-- what a call answers, at a named answer. -/
abbrev Ans (w : World) (v : Value) : Ending → World → Prop := fun e w' => e = .returned v ∧ Below w.heap.size w w'
theorem ans_is {P : Program} {f : FuncId} {args : Array Value} {w : World} {a b : Bool} (h : Calls P f args w (Ans w (.bool a))) (e : a = b) : Calls P f args w (Ans w (.bool b)) := by subst e; exact h
theorem ans_same {P : Program} {f : FuncId} {args : Array Value} {w : World} {v : Value} (h : Calls P f args w fun e w' => e = .returned v ∧ w = w') : Calls P f args w (Ans w v) :=
  h.mono fun _ _ ⟨he, hw⟩ => ⟨he, hw ▸ start _⟩

/-- a row of pairs, of numbers, in memory. -/
def RowD (w : World) (A : Option Addr) (l : List Wd) : Prop :=
  l ≠ [] → ∃ b off, A = some ⟨b, off, none⟩ ∧ b < w.heap.size ∧ ∀ i (h : i < l.length), w.cell? ⟨b, off + i * 2, none⟩ = some (.int .i64 l[i].1) ∧ w.cell? ⟨b, off + i * 2 + 1, none⟩ = some (.int .i64 l[i].2)
def RowI (w : World) (A : Option Addr) (l : List Int) : Prop :=
  l ≠ [] → ∃ b off, A = some ⟨b, off, none⟩ ∧ b < w.heap.size ∧ ∀ i (h : i < l.length), w.cell? ⟨b, off + i, none⟩ = some (.int .i64 l[i])
theorem RowD.keep {w w' : World} {A : Option Addr} {l : List Wd} (h : RowD w A l) (hb : Below w.heap.size w w') : RowD w' A l := fun hn => by
  obtain ⟨b, off, e, hl, hc⟩ := h hn
  exact ⟨b, off, e, Nat.lt_of_lt_of_le hl hb.size, fun i hi => ⟨(hb.cell (p := ⟨b, _, none⟩) hl).trans (hc i hi).1, (hb.cell (p := ⟨b, _, none⟩) hl).trans (hc i hi).2⟩⟩
theorem RowI.keep {w w' : World} {A : Option Addr} {l : List Int} (h : RowI w A l) (hb : Below w.heap.size w w') : RowI w' A l := fun hn => by
  obtain ⟨b, off, e, hl, hc⟩ := h hn
  exact ⟨b, off, e, Nat.lt_of_lt_of_le hl hb.size, fun i hi => (hb.cell (p := ⟨b, _, none⟩) hl).trans (hc i hi)⟩
theorem RowD.nil (w : World) (A : Option Addr) : RowD w A [] := fun h => absurd rfl h
theorem RowI.nil (w : World) (A : Option Addr) : RowI w A [] := fun h => absurd rfl h

set_option maxHeartbeats 400000 in
theorem btw_any (a x b : Int) (w : World) :
    Calls Tryz.prog 179 #[.int .i64 a, .int .i64 x, .int .i64 b] w fun e w' => e = .returned (.bool (btw a x b)) ∧ w = w' := by
  by_cases h : a ≤ x
  · have e := hide (show btw a x b = decide (x ≤ b) by simp [btw, h])
    go_enter Tryz.func179, Tryz.ntmps179
    go_wp2_with fail
    go_ret
    exact ⟨ret_bool (by rw [e.out]), rfl⟩
  · have e := hide (show btw a x b = false by simp [btw, h])
    have hd : decide (a ≤ x) = false := by simpa using h
    go_enter Tryz.func179, Tryz.ntmps179
    go_wp2_with fail
    go_ret
    exact ⟨ret_bool (by rw [e.out]), rfl⟩
theorem btw_at (a x b : Int) (c : Bool) (w : World) (h : btw a x b = c) :
    Calls Tryz.prog 179 #[.int .i64 a, .int .i64 x, .int .i64 b] w fun e w' => e = .returned (.bool c) ∧ w = w' := by
  subst h; exact btw_any a x b w

theorem nan_any (x : Int) (w : World) :
    Calls Tryz.prog 190 #[.int .i64 x] w fun e w' => e = .returned (.bool false) ∧ w = w' := by
  have e := hide (show (x != x) = false by simp)
  go_enter Tryz.func190, Tryz.ntmps190
  go_wp2_with fail
  go_ret
  exact ⟨ret_bool (by first | rfl | rw [e.out]), rfl⟩
/-- what a comparison answers. -/
def cmpI (a b : Int) : Int := if a < b then -1 else if b < a then 1 else 0
theorem cmpI_lt (a b : Int) : decide (0 ≤ cmpI a b) = !inLt a b := by
  unfold cmpI inLt
  by_cases h : a < b
  · rw [if_pos h, decide_eq_true h]; rfl
  · rw [if_neg h, decide_eq_false h]; split <;> rfl
set_option maxHeartbeats 400000 in
theorem cmp_any (a b : Int) (w : World) :
    Calls Tryz.prog 170 #[.int .i64 a, .int .i64 b] w fun e w' => e = .returned (.int .i64 (cmpI a b)) ∧ w = w' := by
  by_cases h1 : a < b
  · have e := hide (show cmpI a b = -1 by simp [cmpI, h1])
    go_enter Tryz.func170, Tryz.ntmps170
    go_wp2_with (go_at_call 190; refine (nan_any _ _).mono ?_; rintro e w' ⟨rfl, rfl⟩)
    go_ret
    exact ⟨ret_int (by rw [e.out]), rfl⟩
  · by_cases h2 : b < a
    · have e := hide (show cmpI a b = 1 by simp [cmpI, h1, h2])
      go_enter Tryz.func170, Tryz.ntmps170
      go_wp2_with (go_at_call 190; refine (nan_any _ _).mono ?_; rintro e w' ⟨rfl, rfl⟩)
      go_ret
      exact ⟨ret_int (by rw [e.out]), rfl⟩
    · have e := hide (show cmpI a b = 0 by simp [cmpI, h1, h2])
      go_enter Tryz.func170, Tryz.ntmps170
      go_wp2_with (go_at_call 190; refine (nan_any _ _).mono ?_; rintro e w' ⟨rfl, rfl⟩)
      go_ret
      exact ⟨ret_int (by rw [e.out]), rfl⟩

set_option maxHeartbeats 400000 in
theorem isMonth_any (n : Int) (w : World) :
    Calls Tryz.prog 185 #[.int .i64 n] w fun e w' => e = .returned (.bool (moOk n)) ∧ w = w' := by
  go_enter Tryz.func185, Tryz.ntmps185
  go_wp2_with (go_at_call 179; refine (btw_any _ _ _ _).mono ?_; rintro e w' ⟨rfl, rfl⟩)
  go_ret
  exact ⟨rfl, rfl⟩
set_option maxHeartbeats 400000 in
theorem isMonthDay_any (n : Int) (w : World) :
    Calls Tryz.prog 184 #[.int .i64 n] w fun e w' => e = .returned (.bool (mdOk n)) ∧ w = w' := by
  cases h : (n != 0)
  · have e := hide (show mdOk n = false by unfold mdOk; rw [h]; rfl)
    go_enter Tryz.func184, Tryz.ntmps184
    go_wp2_with fail
    go_ret
    exact ⟨ret_bool (by rw [e.out]), rfl⟩
  · have e := hide (show mdOk n = btw (-31) n 31 by unfold mdOk; rw [h]; rfl)
    go_enter Tryz.func184, Tryz.ntmps184
    go_wp2_with (go_at_call 179; refine (btw_any _ _ _ _).mono ?_; rintro e w' ⟨rfl, rfl⟩)
    go_ret
    exact ⟨ret_bool (by rw [e.out]), rfl⟩
set_option maxHeartbeats 400000 in
theorem isWeekday_any (x y : Int) (w : World) :
    Calls Tryz.prog 181 #[.agg #[.int .i64 x, .int .i64 y]] w (Ans w (.bool (wdOk (x, y)))) := by
  cases h : btw (-5) x 5
  · have e := hide (show wdOk (x, y) = false by unfold wdOk; rw [h]; rfl)
    have H := hide h
    clear h
    go_enter Tryz.func181, Tryz.ntmps181
    go_wp2_with (go_at_call 179; refine (btw_at _ _ _ _ _ H.out).mono ?_; rintro e w' ⟨rfl, rfl⟩)
    go_ret
    exact ⟨ret_bool (by rw [e.out]), more (start _) _⟩
  · have e := hide (show wdOk (x, y) = btw 0 y 6 by unfold wdOk; rw [h]; rfl)
    have H := hide h
    clear h
    go_enter Tryz.func181, Tryz.ntmps181
    go_wp2_with fail
    refine (btw_at _ _ _ _ _ H.out).mono ?_
    rintro e w' ⟨rfl, rfl⟩
    go_wp2_with (go_at_call 179; refine (btw_any _ _ _ _).mono ?_; rintro e w' ⟨rfl, rfl⟩)
    go_ret
    exact ⟨ret_bool (by rw [e.out]), more (start _) _⟩

/-- what a comparison of weekdays answers. -/
def cmpW (a b : Wd) : Int := if a.1 = b.1 then cmpI a.2 b.2 else cmpI a.1 b.1
theorem cmpW_lt (a b : Wd) : decide (0 ≤ cmpW a b) = !wdLt a b := by
  unfold cmpW wdLt
  by_cases h : a.1 = b.1
  · rw [if_pos h, cmpI_lt]; unfold inLt; congr 1; simp [h]
  · rw [if_neg h, cmpI_lt]; unfold inLt; congr 1; simp [h]
set_option maxHeartbeats 400000 in
theorem cmpW_any (x y u v : Int) (w : World) :
    Calls Tryz.prog 182 #[.agg #[.int .i64 x, .int .i64 y], .agg #[.int .i64 u, .int .i64 v]] w (Ans w (.int .i64 (cmpW (x, y) (u, v)))) := by
  by_cases hx : x = u
  · have e := hide (show cmpW (x, y) (u, v) = cmpI y v by simp [cmpW, hx])
    have h : (x != u) = false := by rw [hx]; simp
    clear hx
    go_enter Tryz.func182, Tryz.ntmps182
    go_wp2_with (go_at_call 170; refine (cmp_any _ _ _).mono ?_; rintro e w' ⟨rfl, rfl⟩)
    go_ret
    exact ⟨ret_int (by rw [e.out]), more (more (start _) _) _⟩
  · have e := hide (show cmpW (x, y) (u, v) = cmpI x u by simp [cmpW, hx])
    have h : (x != u) = true := by rw [bne_iff_ne]; exact hx
    clear hx
    go_enter Tryz.func182, Tryz.ntmps182
    go_wp2_with (go_at_call 170; refine (cmp_any _ _ _).mono ?_; rintro e w' ⟨rfl, rfl⟩)
    go_ret
    exact ⟨ret_int (by rw [e.out]), more (more (start _) _) _⟩
set_option maxHeartbeats 400000 in
theorem pos_any (x y : Int) (w : World) :
    Calls Tryz.prog 195 #[.agg #[.int .i64 x, .int .i64 y]] w (Ans w (.bool (posB (x, y)))) := by
  go_enter Tryz.func195, Tryz.ntmps195
  go_wp2_with fail
  go_ret
  exact ⟨rfl, more (start _) _⟩

end Go.Proofs.YtlmdceeeahnkcaaGreatDoor
namespace Go.Proofs.YtlmdceeeahnkcaaGreatDoor
open Go.RowKit Rul

theorem any_end {α : Type} (q : α → Bool) (l : List α) (j : Nat) (hj : j = l.length) (h : ∀ i (hi : i < l.length), i < j → q l[i] = false) : l.any q = false :=
  any_none q l fun i hi => h i hi (by omega)
theorem none_step {α : Type} (q : α → Bool) (l : List α) (j : Nat) (hj : j < l.length) (h : ∀ i (hi : i < l.length), i < j → q l[i] = false) (h2 : q l[j] = false) : ∀ i (hi : i < l.length), i < j + 1 → q l[i] = false := fun i hi h3 => by
  rcases Nat.lt_or_ge i j with g | g
  · exact h i hi g
  · obtain rfl : i = j := by omega
    exact h2
/-- an index, or -1: what a search answers. -/
def Finds (w : World) (b : Bool) (e : Ending) (w' : World) : Prop := ∃ v : Int, e = .returned (.int .i64 v) ∧ decide (0 ≤ v) = b ∧ Below w.heap.size w w'

set_option maxRecDepth 100000 in
set_option maxHeartbeats 1000000 in
theorem ixPo_any  (A : Option Addr) (n c : Nat) (l : List Wd) (w : World) (hl : RowD w A l) (hn : n = l.length) (hsz : l.length ≤ 10000) :
    Calls Tryz.prog 205 #[.slice A n c, (.func (.func 195) #[] #[])] w (Finds w (l.any posB)) := by
  subst hn
  by_cases hnil : l = []
  · subst hnil
    go_enter Tryz.func205, Tryz.ntmps205
    go_wp2_with fail
    refine wp_loop_rounds 1 ?_
    rw [rounds_succ]
    go_wp2_with fail
    go_ret
    exact ⟨-1, rfl, rfl, start _⟩
  · obtain ⟨b1, o1, rfl, hb1, hc1⟩ := hl hnil
    have HC1 := hide hc1
    clear hl hc1 hnil
    go_enter Tryz.func205, Tryz.ntmps205
    go_wp2_with fail
    go_loopw [8] (fun i wr => ∃ j : Nat, j ≤ l.length ∧ i = .int .i64 j ∧ (∀ i (hi : i < l.length), i < j → posB l[i] = false) ∧ Below w.heap.size w wr) (fun i _ => l.length - (intOf i).toNat)
    case atStart => exact ⟨0, Nat.zero_le _, rfl, fun i hi h => absurd h (Nat.not_lt_zero _), start _⟩
    case round =>
      obtain ⟨j, hj, rfl, heq, hbw⟩ := hrel
      have HE := hide heq
      clear heq
      by_cases hlt : j < l.length
      · have p1 : wr.cell? ⟨b1, o1 + j * 2, none⟩ = some (.int .i64 l[j].1) := (hbw.cell (p := ⟨b1, _, none⟩) hb1).trans (HC1.out j hlt).1
        have p2 : wr.cell? ⟨b1, o1 + j * 2 + 1, none⟩ = some (.int .i64 l[j].2) := (hbw.cell (p := ⟨b1, _, none⟩) hb1).trans (HC1.out j hlt).2
        have hi0 : (0 : Int) ≤ (j : Int) := by omega
        have hi1 : (j : Int) < (l.length : Int) := by omega
        cases hq : posB l[j]
        · have HN := hide (none_step posB l j hlt HE.out hq)
          have HQ := hide hq
          clear hq
          go_wp2_with fail
          refine (ans_is (pos_any l[j].1 l[j].2 _) HQ.out).mono ?_
          rintro e w1 ⟨rfl, hb2⟩
          have hbw2 := hbw.trans (hb2.mono hbw.size)
          go_wp2_with fail
          go_roundw
          case rel => exact ⟨j + 1, by omega, by go_num, HN.out, hbw2⟩
          case measure => simp [intOf]; omega
        · have HN := hide (any_at posB l j hlt hq)
          have HQ := hide hq
          clear hq
          go_wp2_with fail
          refine (ans_is (pos_any l[j].1 l[j].2 _) HQ.out).mono ?_
          rintro e w1 ⟨rfl, hb2⟩
          have hbw2 := hbw.trans (hb2.mono hbw.size)
          go_wp2_with fail
          go_ret
          exact ⟨_, rfl, by rw [HN.out]; exact decide_eq_true hi0, hbw2⟩
      · obtain rfl : j = l.length := by omega
        have HF := hide (any_end posB l l.length rfl HE.out)
        go_wp2_with fail
        go_ret
        exact ⟨-1, rfl, by rw [HF.out]; rfl, hbw⟩

set_option maxHeartbeats 400000 in
theorem hasPo_any  (A : Option Addr) (n c : Nat) (l : List Wd) (w : World) (hl : RowD w A l) (hn : n = l.length) (hsz : l.length ≤ 10000) :
    Calls Tryz.prog 194 #[.slice A n c, (.func (.func 195) #[] #[])] w (Ans w (.bool (l.any posB))) := by
  subst hn
  have HL := hide hl
  clear hl
  go_enter Tryz.func194, Tryz.ntmps194
  go_wp2_with fail
  refine (ixPo_any A _ c l _ HL.out rfl hsz).mono ?_
  rintro e w1 ⟨v, rfl, hv, hb⟩
  have HV := hide hv
  clear hv
  go_wp2_with fail
  go_ret
  exact ⟨ret_bool (by rw [← HV.out]), hb⟩

end Go.Proofs.YtlmdceeeahnkcaaGreatDoor

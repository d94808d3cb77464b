/- Walks of package rule, the smallest: between, comparisons, which weekdays, days of a month, months may be; lists in memory. -/
import Derived.Test.YtdmplojfidkipaaRefC
import Derived.Test.YtdmplojfidkipaaRuMath
import Derived.WalkSpells
import Derived.WalkLawsBesides
import Derived.Lib.QuietBelow
import Derived.Deep.RegionHeld3
import Derived.Deep.DrawnRows
namespace Go.Proofs.Ytdmplojfidkipaa
open Go.RowKit Rul

theorem below_drawn {B : Nat} {a w : World} (h : Below B a w) (n : Nat) : Below B a (w.drewN n) := ⟨h.os, h.tape, h.output, h.size, h.block⟩
theorem more {a w : World} (h : Below a.heap.size a w) (o : Obj) : Below a.heap.size a (w.alloc o) := h.alloc h.size o
theorem andthen {a b c : World} (h : Below a.heap.size a b) (k : Below b.heap.size b c) : Below a.heap.size a c := h.trans (k.mono h.size)
theorem start (a : World) : Below a.heap.size a a := Below.refl _ _
theorem old {W w1 : World} {B : Nat} (hb : Below B W w1) : (∀ b o, b < B → w1.cell? ⟨b, o, none⟩ = W.cell? ⟨b, o, none⟩) ∧ (∀ b o, b < B → w1.frozen? ⟨b, o, none⟩ = W.frozen? ⟨b, o, none⟩) :=
  ⟨fun b o h => hb.cell (p := ⟨b, o, none⟩) h, fun b o h => hb.frozen (p := ⟨b, o, none⟩) h⟩
theorem cell_keep {a b : World} {X k : Nat} {v : Value} (h : Below a.heap.size a b) (c : a.cell? ⟨X, k, none⟩ = some v) : b.cell? ⟨X, k, none⟩ = some v :=
  (h.cell (p := ⟨X, k, none⟩) (block_lt_of_cell c)).trans c
/-- what a call answers, at a named answer. -/
abbrev Ans (w : World) (v : Value) : Ending → World → Prop := fun e w' => e = .returned v ∧ Below w.heap.size w w'
theorem ans_is {P : Program} {f : FuncId} {args : Array Value} {w : World} {a b : Bool} (h : Calls P f args w (Ans w (.bool a))) (e : a = b) : Calls P f args w (Ans w (.bool b)) := by subst e; exact h
theorem ans_same {P : Program} {f : FuncId} {args : Array Value} {w : World} {v : Value} (h : Calls P f args w fun e w' => e = .returned v ∧ w = w') : Calls P f args w (Ans w v) :=
  h.mono fun _ _ ⟨he, hw⟩ => ⟨he, hw ▸ start _⟩

/-- a row of pairs, of numbers, in memory. -/
def RowD (w : World) (A : Option Addr) (l : List Wd) : Prop :=
  l ≠ [] → ∃ b off, A = some ⟨b, off, none⟩ ∧ b < w.heap.size ∧ ∀ i (h : i < l.length), w.cell? ⟨b, off + i * 2, none⟩ = some (.int .i64 l[i].1) ∧ w.cell? ⟨b, off + i * 2 + 1, none⟩ = some (.int .i64 l[i].2)
def RowI (w : World) (A : Option Addr) (l : List Int) : Prop :=
  l ≠ [] → ∃ b off, A = some ⟨b, off, none⟩ ∧ b < w.heap.size ∧ ∀ i (h : i < l.length), w.cell? ⟨b, off + i, none⟩ = some (.int .i64 l[i])
theorem RowD.keep {w w' : World} {A : Option Addr} {l : List Wd} (h : RowD w A l) (hb : Below w.heap.size w w') : RowD w' A l := fun hn => by
  obtain ⟨b, off, e, hl, hc⟩ := h hn
  exact ⟨b, off, e, Nat.lt_of_lt_of_le hl hb.size, fun i hi => ⟨(hb.cell (p := ⟨b, _, none⟩) hl).trans (hc i hi).1, (hb.cell (p := ⟨b, _, none⟩) hl).trans (hc i hi).2⟩⟩
theorem RowI.keep {w w' : World} {A : Option Addr} {l : List Int} (h : RowI w A l) (hb : Below w.heap.size w w') : RowI w' A l := fun hn => by
  obtain ⟨b, off, e, hl, hc⟩ := h hn
  exact ⟨b, off, e, Nat.lt_of_lt_of_le hl hb.size, fun i hi => (hb.cell (p := ⟨b, _, none⟩) hl).trans (hc i hi)⟩
theorem RowD.nil (w : World) (A : Option Addr) : RowD w A [] := fun h => absurd rfl h
theorem RowI.nil (w : World) (A : Option Addr) : RowI w A [] := fun h => absurd rfl h

set_option maxHeartbeats 400000 in
theorem btw_any (a x b : Int) (w : World) :
    Calls Try.prog 69 #[.int .i64 a, .int .i64 x, .int .i64 b] w fun e w' => e = .returned (.bool (btw a x b)) ∧ w = w' := by
  by_cases h : a ≤ x
  · have e := hide (show btw a x b = decide (x ≤ b) by simp [btw, h])
    go_enter Try.func69, Try.ntmps69
    go_wp2_with fail
    go_ret
    exact ⟨ret_bool (by rw [e.out]), rfl⟩
  · have e := hide (show btw a x b = false by simp [btw, h])
    have hd : decide (a ≤ x) = false := by simpa using h
    go_enter Try.func69, Try.ntmps69
    go_wp2_with fail
    go_ret
    exact ⟨ret_bool (by rw [e.out]), rfl⟩
theorem btw_at (a x b : Int) (c : Bool) (w : World) (h : btw a x b = c) :
    Calls Try.prog 69 #[.int .i64 a, .int .i64 x, .int .i64 b] w fun e w' => e = .returned (.bool c) ∧ w = w' := by
  subst h; exact btw_any a x b w

theorem nan_any (x : Int) (w : World) :
    Calls Try.prog 87 #[.int .i64 x] w fun e w' => e = .returned (.bool false) ∧ w = w' := by
  have e := hide (show (x != x) = false by simp)
  go_enter Try.func87, Try.ntmps87
  go_wp2_with fail
  go_ret
  exact ⟨ret_bool (by first | rfl | rw [e.out]), rfl⟩
/-- what a comparison answers. -/
def cmpI (a b : Int) : Int := if a < b then -1 else if b < a then 1 else 0
theorem cmpI_lt (a b : Int) : decide (0 ≤ cmpI a b) = !inLt a b := by
  unfold cmpI inLt
  by_cases h : a < b
  · rw [if_pos h, decide_eq_true h]; rfl
  · rw [if_neg h, decide_eq_false h]; split <;> rfl
theorem cmpI_eq (a b : Int) : cmpI a b = 0 ↔ a = b := by unfold cmpI; split <;> (try split) <;> omega

set_option maxHeartbeats 400000 in
theorem cmp_any (a b : Int) (w : World) :
    Calls Try.prog 75 #[.int .i64 a, .int .i64 b] w fun e w' => e = .returned (.int .i64 (cmpI a b)) ∧ w = w' := by
  by_cases h1 : a < b
  · have e := hide (show cmpI a b = -1 by simp [cmpI, h1])
    go_enter Try.func75, Try.ntmps75
    go_wp2_with (go_at_call 87; refine (nan_any _ _).mono ?_; rintro e w' ⟨rfl, rfl⟩)
    go_ret
    exact ⟨ret_int (by rw [e.out]), rfl⟩
  · by_cases h2 : b < a
    · have e := hide (show cmpI a b = 1 by simp [cmpI, h1, h2])
      go_enter Try.func75, Try.ntmps75
      go_wp2_with (go_at_call 87; refine (nan_any _ _).mono ?_; rintro e w' ⟨rfl, rfl⟩)
      go_ret
      exact ⟨ret_int (by rw [e.out]), rfl⟩
    · have e := hide (show cmpI a b = 0 by simp [cmpI, h1, h2])
      go_enter Try.func75, Try.ntmps75
      go_wp2_with (go_at_call 87; refine (nan_any _ _).mono ?_; rintro e w' ⟨rfl, rfl⟩)
      go_ret
      exact ⟨ret_int (by rw [e.out]), rfl⟩

set_option maxHeartbeats 400000 in
theorem isMonth_any (n : Int) (w : World) :
    Calls Try.prog 76 #[.int .i64 n] w fun e w' => e = .returned (.bool (moOk n)) ∧ w = w' := by
  go_enter Try.func76, Try.ntmps76
  go_wp2_with (go_at_call 69; refine (btw_any _ _ _ _).mono ?_; rintro e w' ⟨rfl, rfl⟩)
  go_ret
  exact ⟨rfl, rfl⟩
set_option maxHeartbeats 400000 in
theorem isMonthDay_any (n : Int) (w : World) :
    Calls Try.prog 74 #[.int .i64 n] w fun e w' => e = .returned (.bool (mdOk n)) ∧ w = w' := by
  cases h : (n != 0)
  · have e := hide (show mdOk n = false by unfold mdOk; rw [h]; rfl)
    go_enter Try.func74, Try.ntmps74
    go_wp2_with fail
    go_ret
    exact ⟨ret_bool (by rw [e.out]), rfl⟩
  · have e := hide (show mdOk n = btw (-31) n 31 by unfold mdOk; rw [h]; rfl)
    go_enter Try.func74, Try.ntmps74
    go_wp2_with (go_at_call 69; refine (btw_any _ _ _ _).mono ?_; rintro e w' ⟨rfl, rfl⟩)
    go_ret
    exact ⟨ret_bool (by rw [e.out]), rfl⟩
set_option maxHeartbeats 400000 in
theorem isWeekday_any (x y : Int) (w : World) :
    Calls Try.prog 71 #[.agg #[.int .i64 x, .int .i64 y]] w (Ans w (.bool (wdOk (x, y)))) := by
  cases h : btw (-5) x 5
  · have e := hide (show wdOk (x, y) = false by unfold wdOk; rw [h]; rfl)
    have H := hide h
    clear h
    go_enter Try.func71, Try.ntmps71
    go_wp2_with (go_at_call 69; refine (btw_at _ _ _ _ _ H.out).mono ?_; rintro e w' ⟨rfl, rfl⟩)
    go_ret
    exact ⟨ret_bool (by rw [e.out]), more (start _) _⟩
  · have e := hide (show wdOk (x, y) = btw 0 y 6 by unfold wdOk; rw [h]; rfl)
    have H := hide h
    clear h
    go_enter Try.func71, Try.ntmps71
    go_wp2_with fail
    refine (btw_at _ _ _ _ _ H.out).mono ?_
    rintro e w' ⟨rfl, rfl⟩
    go_wp2_with (go_at_call 69; refine (btw_any _ _ _ _).mono ?_; rintro e w' ⟨rfl, rfl⟩)
    go_ret
    exact ⟨ret_bool (by rw [e.out]), more (start _) _⟩

/-- what a comparison of weekdays answers. -/
def cmpW (a b : Wd) : Int := if a.1 = b.1 then cmpI a.2 b.2 else cmpI a.1 b.1
theorem cmpW_lt (a b : Wd) : decide (0 ≤ cmpW a b) = !wdLt a b := by
  unfold cmpW wdLt
  by_cases h : a.1 = b.1
  · rw [if_pos h, cmpI_lt]; unfold inLt; congr 1; simp [h]
  · rw [if_neg h, cmpI_lt]; unfold inLt; congr 1; simp [h]
set_option maxHeartbeats 400000 in
theorem cmpW_any (x y u v : Int) (w : World) :
    Calls Try.prog 72 #[.agg #[.int .i64 x, .int .i64 y], .agg #[.int .i64 u, .int .i64 v]] w (Ans w (.int .i64 (cmpW (x, y) (u, v)))) := by
  by_cases hx : x = u
  · have e := hide (show cmpW (x, y) (u, v) = cmpI y v by simp [cmpW, hx])
    have h : (x != u) = false := by rw [hx]; simp
    clear hx
    go_enter Try.func72, Try.ntmps72
    go_wp2_with (go_at_call 75; refine (cmp_any _ _ _).mono ?_; rintro e w' ⟨rfl, rfl⟩)
    go_ret
    exact ⟨ret_int (by rw [e.out]), more (more (start _) _) _⟩
  · have e := hide (show cmpW (x, y) (u, v) = cmpI x u by simp [cmpW, hx])
    have h : (x != u) = true := by rw [bne_iff_ne]; exact hx
    clear hx
    go_enter Try.func72, Try.ntmps72
    go_wp2_with (go_at_call 75; refine (cmp_any _ _ _).mono ?_; rintro e w' ⟨rfl, rfl⟩)
    go_ret
    exact ⟨ret_int (by rw [e.out]), more (more (start _) _) _⟩
set_option maxHeartbeats 400000 in
theorem pos_any (x y : Int) (w : World) :
    Calls Try.prog 89 #[.agg #[.int .i64 x, .int .i64 y]] w (Ans w (.bool (posB (x, y)))) := by
  go_enter Try.func89, Try.ntmps89
  go_wp2_with fail
  go_ret
  exact ⟨rfl, more (start _) _⟩

/-- a place as a value. -/
abbrev pv (p : P) : Value := .agg #[.int .i64 p.mo, .int .i64 p.dy, .int .i64 p.de, .int .i64 p.wd, .int .i64 p.po, .int .i64 p.pe]
set_option maxHeartbeats 400000 in
theorem moFit_any (p : P) (n : Int) (w : World) :
    Calls Try.prog 97 #[pv p, .int .i64 n] w (Ans w (.bool (moFit p n))) := by
  have e := hide (show moFit p n = (n == p.mo) from rfl)
  go_enter Try.func97, Try.ntmps97
  go_wp2_with fail
  go_ret
  exact ⟨ret_bool (by rw [e.out]), more (start _) _⟩
set_option maxHeartbeats 400000 in
theorem mdFit_any (p : P) (n : Int) (w : World) :
    Calls Try.prog 98 #[pv p, .int .i64 n] w (Ans w (.bool (mdFit p n))) := by
  cases h : (n == p.dy)
  · have e := hide (show mdFit p n = (n == p.de) by
      unfold mdFit; rw [decide_eq_false (by rw [beq_eq_false_iff_ne] at h; exact h)]; rfl)
    go_enter Try.func98, Try.ntmps98
    go_wp2_with fail
    go_ret
    exact ⟨ret_bool (by rw [e.out]), more (start _) _⟩
  · have e := hide (show mdFit p n = true by
      unfold mdFit; rw [decide_eq_true (by rw [beq_iff_eq] at h; exact h)]; rfl)
    go_enter Try.func98, Try.ntmps98
    go_wp2_with fail
    go_ret
    exact ⟨ret_bool (by rw [e.out]), more (start _) _⟩
theorem wdFit_eq (p : P) (x y : Int) : wdFit p (x, y) = ((y == p.wd) && ((x == 0) || ((x == p.po) || (x == p.pe)))) := rfl
set_option maxHeartbeats 400000 in
theorem wdFit_any (p : P) (x y : Int) (w : World) :
    Calls Try.prog 100 #[pv p, .agg #[.int .i64 x, .int .i64 y]] w (Ans w (.bool (wdFit p (x, y)))) := by
  cases h1 : (y == p.wd) <;> cases h2 : (x == 0) <;> cases h3 : (x == p.po)
  all_goals
    have e := hide (wdFit_eq p x y)
    rw [h1, h2, h3] at e
    go_enter Try.func100, Try.ntmps100
    go_wp2_with fail
    go_ret
    exact ⟨ret_bool (by rw [e.out]; try rfl), more (more (start _) _) _⟩

end Go.Proofs.Ytdmplojfidkipaa

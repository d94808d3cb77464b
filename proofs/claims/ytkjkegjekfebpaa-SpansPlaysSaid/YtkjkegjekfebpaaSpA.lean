/- Walks of package span, single spans: is a span valid, how long, is a minute in it, what two have in common, do they touch, is one within the other. -/
import Derived.Test.YtkjkegjekfebpaaProg
import Derived.Test.YtkjkegjekfebpaaSpMath
import Derived.WalkKit
import Derived.WalkSpells
import Derived.WalkLawsBesides
import Derived.Deep.QuietTactic
import Derived.BigQuiet
import Derived.Deep.RegionHeld3
import Derived.Deep.DrawnRows
namespace Go.Proofs.Ytkjkegjekfebpaa
open Go.RowKit Spn

theorem hide {p : Prop} (h : p) : Hid p := h
theorem ret_bool {a b : Bool} (h : a = b) : Ending.returned (.bool a) = .returned (.bool b) := by rw [h]
theorem ret_int {k : IntKind} {a b : Int} (h : a = b) : Ending.returned (.int k a) = .returned (.int k b) := by rw [h]
theorem below_drawn {B : Nat} {a w : World} (h : Below B a w) (n : Nat) : Below B a (w.drewN n) := ⟨h.os, h.tape, h.output, h.size, h.block⟩
theorem more {a w : World} (h : Below a.heap.size a w) (o : Obj) : Below a.heap.size a (w.alloc o) := h.alloc h.size o
theorem andthen {a b c : World} (h : Below a.heap.size a b) (k : Below b.heap.size b c) : Below a.heap.size a c := h.trans (k.mono h.size)
theorem start (a : World) : Below a.heap.size a a := Below.refl _ _
/-- what lay before reads as it read. -/
theorem old {W w1 : World} {B : Nat} (hb : Below B W w1) : (∀ b o, b < B → w1.cell? ⟨b, o, none⟩ = W.cell? ⟨b, o, none⟩) ∧ (∀ b o, b < B → w1.frozen? ⟨b, o, none⟩ = W.frozen? ⟨b, o, none⟩) :=
  ⟨fun b o h => hb.cell (p := ⟨b, o, none⟩) h, fun b o h => hb.frozen (p := ⟨b, o, none⟩) h⟩
/-- a span as a value. -/
abbrev sp (a : Sp) : Value := .agg #[.int .i64 a.1, .int .i64 a.2]

theorem okB_all (f t : Int) (h1 : 0 ≤ f) (h2 : f < t) (h3 : t ≤ 52596000) : okB (f, t) = true := by
  rw [okB_iff]; exact ⟨h1, h2, h3⟩
theorem okB_no (f t : Int) (h : ¬ (0 ≤ f ∧ f < t ∧ t ≤ 52596000)) : okB (f, t) = false := by
  rw [okB_not]; exact h

set_option maxHeartbeats 400000 in
theorem is_any (f t : Int) (w : World) :
    Calls Try.prog 34 #[.agg #[.int .i64 f, .int .i64 t]] w fun e w' => e = .returned (.bool (okB (f, t))) ∧ Below w.heap.size w w' := by
  by_cases h1 : 0 ≤ f
  · by_cases h2 : f < t
    · by_cases h3 : t ≤ 52596000
      · have e := hide (okB_all f t h1 h2 h3)
        go_enter Try.func34, Try.ntmps34
        go_wp2
        go_ret
        exact ⟨ret_bool (by rw [e.out]), (Below.refl _ _).alloc (Nat.le_refl _) _⟩
      · have e := hide (okB_no f t (fun h => h3 h.2.2))
        go_enter Try.func34, Try.ntmps34
        go_wp2
        go_ret
        exact ⟨ret_bool (by rw [e.out]), (Below.refl _ _).alloc (Nat.le_refl _) _⟩
    · have e := hide (okB_no f t (fun h => h2 h.2.1))
      go_enter Try.func34, Try.ntmps34
      go_wp2
      go_ret
      exact ⟨ret_bool (by rw [e.out]), (Below.refl _ _).alloc (Nat.le_refl _) _⟩
  · have e := hide (okB_no f t (fun h => h1 h.1))
    go_enter Try.func34, Try.ntmps34
    go_wp2
    go_ret
    exact ⟨ret_bool (by rw [e.out]), (Below.refl _ _).alloc (Nat.le_refl _) _⟩
theorem is_at (f t : Int) (b : Bool) (w : World) (h : okB (f, t) = b) :
    Calls Try.prog 34 #[.agg #[.int .i64 f, .int .i64 t]] w fun e w' => e = .returned (.bool b) ∧ Below w.heap.size w w' := by
  subst h; exact is_any f t w

set_option maxHeartbeats 400000 in
theorem long_any (f t : Int) (w : World) :
    Calls Try.prog 56 #[.agg #[.int .i64 f, .int .i64 t]] w fun e w' => e = .returned (.int .i64 (long (f, t))) ∧ Below w.heap.size w w' := by
  cases hb : okB (f, t)
  · have hl := hide (long_no (f, t) ((okB_not _).1 hb))
    have HB := hide hb
    clear hb
    go_enter Try.func56, Try.ntmps56
    go_wp2_with fail
    refine (is_at f t false _ HB.out).mono ?_
    rintro e w1 ⟨rfl, hb1⟩
    go_wp2_with fail
    go_ret
    exact ⟨ret_int (by rw [hl.out]), andthen (more (start _) _) hb1⟩
  · have hk := (okB_iff _).1 hb
    have hl := hide (long_pos (f, t) hk).1
    have HB := hide hb
    have g1 : 0 ≤ f := hk.1
    have g2 : f < t := hk.2.1
    have g3 : t ≤ 52596000 := hk.2.2
    clear hb hk
    go_enter Try.func56, Try.ntmps56
    go_wp2_with fail
    refine (is_at f t true _ HB.out).mono ?_
    rintro e w1 ⟨rfl, hb1⟩
    obtain ⟨hc, hf⟩ := old hb1
    go_wp2_with fail
    go_ret
    exact ⟨ret_int (by rw [hl.out]), andthen (more (start _) _) hb1⟩

end Go.Proofs.Ytkjkegjekfebpaa

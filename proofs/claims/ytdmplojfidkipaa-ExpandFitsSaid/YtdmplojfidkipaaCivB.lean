/- Walks of package civil: the number of a day, the day of a number, weekdays. -/
import Derived.Test.YtdmplojfidkipaaCivA
namespace Go.Proofs.Ytdmplojfidkipaa
open Go.RowKit

theorem below_drewN {B : Nat} {a w : World} (h : Below B a w) (n : Nat) : Below B a (w.drewN n) := ⟨h.os, h.tape, h.output, h.size, h.block⟩
theorem quiet_left {P : Program} {f : FuncId} {args : Array Value} {w : World} {n : Nat} {v : Value}
    (h : Calls P f args (w.drewN n) fun e w' => e = .returned v ∧ w.drewN n = w') : Calls P f args (w.drewN n) fun e w'' => e = .returned v ∧ ∃ m, w'' = w.drewN m :=
  h.mono fun _ _ ⟨he, hm⟩ => ⟨he, n, hm.symm⟩
theorem bcell {W w1 : World} (hb : Below W.heap.size W w1) : (∀ b o, b < W.heap.size → w1.cell? ⟨b, o, none⟩ = W.cell? ⟨b, o, none⟩) ∧ (∀ b o, b < W.heap.size → w1.frozen? ⟨b, o, none⟩ = W.frozen? ⟨b, o, none⟩) :=
  ⟨fun b o h => hb.cell (p := ⟨b, o, none⟩) h, fun b o h => hb.frozen (p := ⟨b, o, none⟩) h⟩

theorem isB_yes (y m d : Int) (h : 1 ≤ d) : decide (d ≤ Cal.dim y m) = Cal.isB y m d := by simp [Cal.isB, h]
theorem isB_no (y m d : Int) (h : decide (1 ≤ d) = false) : false = Cal.isB y m d := by simp [Cal.isB, h]

set_option maxHeartbeats 400000 in
theorem is_any (y m d : Int) (w : World) :
    Calls Try.prog 101 #[.agg #[.int .i64 y, .int .i64 m, .int .i64 d]] w fun e w' => e = .returned (.bool (Cal.isB y m d)) ∧ Below w.heap.size w w' := by
  by_cases h : 1 ≤ d
  · go_enter Try.func101, Try.ntmps101
    go_wp2_with fail
    go_quiet ((go_at_call 61; exact quiet_left (length_any _ _ _)))
    go_wp2
    go_ret
    exact ⟨ret_bool (isB_yes y m d h), below_drewN ((Below.refl _ _).alloc (Nat.le_refl _) _) _⟩
  · have hd : decide (1 ≤ d) = false := by simpa using h
    go_enter Try.func101, Try.ntmps101
    go_wp2_with fail
    go_quiet ((go_at_call 61; exact quiet_left (length_any _ _ _)))
    go_wp2
    go_ret
    exact ⟨ret_bool (isB_no y m d hd), below_drewN ((Below.refl _ _).alloc (Nat.le_refl _) _) _⟩

theorem yst_wrap (y : Int) (_h1 : 2000 ≤ y) (_h2 : y ≤ 2099) : (y - 2000) * 365 + (y - 2000 + 3) / 4 = Cal.yst y := by unfold Cal.yst; rfl
set_option maxHeartbeats 400000 in
theorem yearStart_any (y : Int) (w : World) (h1 : 2000 ≤ y) (h2 : y ≤ 2099) :
    Calls Try.prog 60 #[.int .i64 y] w fun e w' => e = .returned (.int .i64 (Cal.yst y)) ∧ w = w' := by
  go_enter Try.func60, Try.ntmps60
  go_wp2
  go_ret
  exact ⟨ret_int (yst_wrap y h1 h2), rfl⟩

end Go.Proofs.Ytdmplojfidkipaa

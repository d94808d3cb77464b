/- Put together: CivA CivB CivC CivD CivE CivF CivG CivH. -/
import Derived.Test.YtojhajlhbhkddaaDoorProg
import Derived.Test.YtojhajlhbhkddaaDoorCivMath
import Derived.WalkKit
import Derived.WalkSpells
import Derived.WalkLawsBesides
import Derived.Deep.QuietTactic
import Derived.BigQuiet

/- Walks of package civil, the plain ones: leap years, lengths of months, the number of a day. -/
namespace Go.Proofs.YtojhajlhbhkddaaDoor
open Go.RowKit

theorem hide {p : Prop} (h : p) : Hid p := h
theorem ret_bool {a b : Bool} (h : a = b) : Ending.returned (.bool a) = .returned (.bool b) := by rw [h]
theorem ret_int {k : IntKind} {a b : Int} (h : a = b) : Ending.returned (.int k a) = .returned (.int k b) := by rw [h]

theorem dim_31 (y m : Int) (h : m = 1 ∨ m = 3 ∨ m = 5 ∨ m = 7 ∨ m = 8 ∨ m = 10 ∨ m = 12) : 31 = Cal.dim y m := by
  unfold Cal.dim; rw [if_pos h]
theorem dim_30 (y m : Int) (h : m = 4 ∨ m = 6 ∨ m = 9 ∨ m = 11) : 30 = Cal.dim y m := by
  unfold Cal.dim; rw [if_neg (by omega), if_pos h]
theorem dim_29 (y : Int) (h : Cal.lpB y = true) : 29 = Cal.dim y 2 := by simp [Cal.dim, h]
theorem dim_28 (y : Int) (h : Cal.lpB y = false) : 28 = Cal.dim y 2 := by simp [Cal.dim, h]
theorem dim_0 (y m : Int) (h : m < 1 ∨ 12 < m) : 0 = Cal.dim y m := (Cal.dim_out y m h).symm

end Go.Proofs.YtojhajlhbhkddaaDoor

/- Walks of package civil: the number of a day, the day of a number, weekdays. -/
namespace Go.Proofs.YtojhajlhbhkddaaDoor
open Go.RowKit

theorem below_drewN {B : Nat} {a w : World} (h : Below B a w) (n : Nat) : Below B a (w.drewN n) := ⟨h.os, h.tape, h.output, h.size, h.block⟩
theorem quiet_left {P : Program} {f : FuncId} {args : Array Value} {w : World} {n : Nat} {v : Value}
    (h : Calls P f args (w.drewN n) fun e w' => e = .returned v ∧ w.drewN n = w') : Calls P f args (w.drewN n) fun e w'' => e = .returned v ∧ ∃ m, w'' = w.drewN m :=
  h.mono fun _ _ ⟨he, hm⟩ => ⟨he, n, hm.symm⟩
theorem bcell {W w1 : World} (hb : Below W.heap.size W w1) : (∀ b o, b < W.heap.size → w1.cell? ⟨b, o, none⟩ = W.cell? ⟨b, o, none⟩) ∧ (∀ b o, b < W.heap.size → w1.frozen? ⟨b, o, none⟩ = W.frozen? ⟨b, o, none⟩) :=
  ⟨fun b o h => hb.cell (p := ⟨b, o, none⟩) h, fun b o h => hb.frozen (p := ⟨b, o, none⟩) h⟩

theorem isB_yes (y m d : Int) (h : 1 ≤ d) : decide (d ≤ Cal.dim y m) = Cal.isB y m d := by simp [Cal.isB, h]
theorem isB_no (y m d : Int) (h : decide (1 ≤ d) = false) : false = Cal.isB y m d := by simp [Cal.isB, h]

theorem yst_wrap (y : Int) (_h1 : 2000 ≤ y) (_h2 : y ≤ 2099) : (y - 2000) * 365 + (y - 2000 + 3) / 4 = Cal.yst y := by unfold Cal.yst; rfl
end Go.Proofs.YtojhajlhbhkddaaDoor

/- Walks of package civil: the number of a date, its errors; the date of a number. -/
namespace Go.Proofs.YtojhajlhbhkddaaDoor
open Go.RowKit

theorem num_one (y d : Int) : Cal.yst y + d - 1 = Cal.yst y + d - 1 + Cal.cum y 1 := by rw [Cal.cum_one]; omega
theorem num_step (y d k : Int) (h1 : 1 ≤ k) (h2 : k ≤ 12) : Cal.yst y + d - 1 + Cal.cum y k + Cal.dim y k = Cal.yst y + d - 1 + Cal.cum y (k + 1) := by
  rw [Cal.cum_succ y k h1 h2]; omega
theorem num_end (y m d : Int) : Cal.yst y + d - 1 + Cal.cum y m = Cal.num y m d := by unfold Cal.num; omega

/-- what Number answers: the number, or which error. -/
def numE (y m d : Int) : Int × Int := if Cal.isB y m d then (if 2000 ≤ y ∧ y ≤ 2099 then (Cal.num y m d, 0) else (0, 10)) else (0, 11)
theorem numE_11 (y m d : Int) (h : Cal.isB y m d = false) : numE y m d = (0, 11) := by simp [numE, h]
theorem numE_10 (y m d : Int) (h : Cal.isB y m d = true) (hy : y < 2000 ∨ 2099 < y) : numE y m d = (0, 10) := by
  unfold numE; rw [if_pos h, if_neg (by omega)]
theorem numE_0 (y m d : Int) (h : Cal.isB y m d = true) (h1 : 2000 ≤ y) (h2 : y ≤ 2099) : numE y m d = (Cal.num y m d, 0) := by
  unfold numE; rw [if_pos h, if_pos ⟨h1, h2⟩]

end Go.Proofs.YtojhajlhbhkddaaDoor

/- Walks of package civil: the date of a day. -/
namespace Go.Proofs.YtojhajlhbhkddaaDoor
open Go.RowKit

theorem month_at (y r k : Int) (hk1 : 1 ≤ k) (hk2 : k ≤ 12) (h1 : 0 ≤ r - Cal.cum y k) (h2 : ¬ Cal.dim y k ≤ r - Cal.cum y k) : Cal.mAt y r = k := by
  have hs := Cal.cum_succ y k hk1 hk2
  exact Cal.mAt_of _ _ k hk1 hk2 (by omega) (by omega)
theorem month_step (y r k : Int) (hhi : r < Cal.cum y 13) (hk1 : 1 ≤ k) (hk2 : k ≤ 12) (h : Cal.dim y k ≤ r - Cal.cum y k) : k + 1 ≤ 12 ∧ 0 ≤ r - Cal.cum y (k + 1) := by
  have hs := Cal.cum_succ y k hk1 hk2
  refine ⟨?_, by omega⟩
  by_cases e : k = 12
  · subst e
    have : Cal.cum y (12 + 1) = Cal.cum y 13 := rfl
    omega
  · omega
theorem month_next (y r k : Int) (hk1 : 1 ≤ k) (hk2 : k ≤ 12) : r - Cal.cum y k - Cal.dim y k = r - Cal.cum y (k + 1) := by
  rw [Cal.cum_succ _ _ hk1 hk2]; omega

/-- a number that fits an int64, kept behind a name. -/
def I64 (n : Int) : Prop := -9223372036854775808 ≤ n ∧ n ≤ 9223372036854775807
theorem wrap_i64 (n : Int) (h : I64 n) : IntKind.i64.wrap n = n := by
  unfold I64 at h
  exact IntWalk.i64_in n (by omega)

theorem quo_any (n s : Int) (hn : I64 n) (h1 : 0 < s) : I64 (n.tdiv s) := by
  unfold I64 at *
  rcases Int.lt_or_le n 0 with g | g
  · have e : n.tdiv s = -((-n).tdiv s) := by rw [Int.neg_tdiv]; omega
    rw [e, Int.tdiv_eq_ediv_of_nonneg (by omega)]
    have a := Int.ediv_nonneg (a := -n) (b := s) (by omega) (by omega)
    have b := Int.ediv_le_self (a := -n) s (by omega)
    omega
  · rw [Int.tdiv_eq_ediv_of_nonneg g]
    have a := Int.ediv_nonneg (a := n) (b := s) (by omega) (by omega)
    have b := Int.ediv_le_self (a := n) s (by omega)
    omega
theorem split_pos (n s : Int) (h1 : 0 < s) (h : ¬ n.tmod s < 0) : n.tmod s = n % s ∧ n.tdiv s = n / s := by
  have hm : n.tmod s = n % s := by
    rcases Int.lt_or_le n 0 with g | g
    · have h0 : n.tmod s ≤ 0 := by
        have e : n.tmod s = -((-n).tmod s) := by rw [Int.neg_tmod]; omega
        rw [e, Int.tmod_eq_emod_of_nonneg (by omega)]
        have := Int.emod_nonneg (-n) (b := s) (by omega)
        omega
      have h0' : n.tmod s = 0 := by omega
      have hd : s ∣ n := Int.dvd_of_tmod_eq_zero h0'
      rw [h0', Int.emod_eq_zero_of_dvd hd]
    · exact Int.tmod_eq_emod_of_nonneg g
  refine ⟨hm, ?_⟩
  have a := Int.mul_tdiv_add_tmod n s
  have b := Int.mul_ediv_add_emod n s
  rw [hm] at a
  have c : s * n.tdiv s = s * (n / s) := by omega
  exact Int.eq_of_mul_eq_mul_left (by omega) c
theorem split_neg (n s : Int) (h1 : 0 < s) (h : n.tmod s < 0) : n.tmod s + s = n % s ∧ n.tdiv s - 1 = n / s := by
  have hl : -s < n.tmod s := by
    have := Int.lt_tmod_of_pos n h1
    omega
  have a := Int.mul_tdiv_add_tmod n s
  have e : n = s * (n.tdiv s - 1) + (n.tmod s + s) := by rw [Int.mul_sub]; omega
  have hr : 0 ≤ n.tmod s + s := by omega
  have hr2 : n.tmod s + s < s := by omega
  have u := (Int.ediv_emod_unique (a := n) (b := s) (r := n.tmod s + s) (q := n.tdiv s - 1) h1).2 ⟨by rw [Int.add_comm]; exact e.symm, hr, hr2⟩
  exact ⟨u.2.symm, u.1.symm⟩

end Go.Proofs.YtojhajlhbhkddaaDoor

/- Walks of package civil: weekdays, which days and minutes there are. -/
namespace Go.Proofs.YtojhajlhbhkddaaDoor
open Go.RowKit

theorem wrap64_id (n : Int) (h : I64 n) : wrap64 n = n := by
  unfold I64 at h
  unfold wrap64
  omega
theorem tdiv_pred (n s : Int) (hn : I64 n) (h1 : 0 < s) (h2 : s < 1000000) (hq : I64 (n / s)) (h : n.tmod s < 0) : wrap64 (wrap64 (n.tdiv s) - 1) = n / s ∧ wrap64 (n.tmod s + s) = n % s := by
  have a := split_neg n s h1 h
  have b0 := Int.emod_nonneg n (b := s) (by omega)
  have b1 := Int.emod_lt_of_pos n h1
  rw [wrap64_id _ (quo_any n s hn h1), a.2, a.1]
  exact ⟨wrap64_id _ hq, wrap64_id _ (by unfold I64; omega)⟩
theorem tdiv_same (n s : Int) (hn : I64 n) (h1 : 0 < s) (h : 0 ≤ n.tmod s) : wrap64 (n.tdiv s) = n / s ∧ n.tmod s = n % s := by
  have a := split_pos n s h1 (by omega)
  have q := quo_any n s hn h1
  rw [wrap64_id _ q]
  exact ⟨a.2, a.1⟩

theorem ret_two {k : IntKind} {a b c d : Int} (h : a = b ∧ c = d) : Ending.returned (.tuple #[.int k a, .int k c]) = .returned (.tuple #[.int k b, .int k d]) := by rw [h.1, h.2]

theorem mod7_bd (n : Int) : 0 ≤ n % 7 ∧ n % 7 ≤ 6 := by omega
theorem wday_go (n : Int) : (5 + n % 7) % 7 = Cal.wday n := rfl
end Go.Proofs.YtojhajlhbhkddaaDoor

/- Walks of package civil: Date, Minute, Clock. -/
namespace Go.Proofs.YtojhajlhbhkddaaDoor
open Go.RowKit

/-- a date as a value. -/
def dateV (y m d : Int) : Value := .agg #[.int .i64 y, .int .i64 m, .int .i64 d]

end Go.Proofs.YtojhajlhbhkddaaDoor

/- Walks of package civil: days that there aren't; Minute, Clock. -/
namespace Go.Proofs.YtojhajlhbhkddaaDoor
open Go.RowKit

/-- is there such a time of the clock? -/
def timeB (h m : Int) : Bool := decide (0 ≤ h) && decide (h ≤ 23) && decide (0 ≤ m) && decide (m ≤ 59)
theorem timeB_iff (h m : Int) : timeB h m = true ↔ 0 ≤ h ∧ h ≤ 23 ∧ 0 ≤ m ∧ m ≤ 59 := by simp [timeB, and_assoc]
/-- what Minute answers: the minute, or which error. -/
def minE (y mo d h m : Int) : Int × Int := if (numE y mo d).2 = 0 then (if timeB h m then ((numE y mo d).1 * 1440 + h * 60 + m, 0) else (0, 11)) else (0, (numE y mo d).2)

end Go.Proofs.YtojhajlhbhkddaaDoor

/- Walks of package civil: Minute in one contract; Clock. -/
namespace Go.Proofs.YtojhajlhbhkddaaDoor
open Go.RowKit

theorem numE_cases (y m d : Int) : (∃ c, numE y m d = (0, c) ∧ (c = 10 ∨ c = 11)) ∨ (∃ a, numE y m d = (a, 0) ∧ 0 ≤ a ∧ a < 36525) := by
  cases hb : Cal.isB y m d
  · exact .inl ⟨11, numE_11 y m d hb, .inr rfl⟩
  · by_cases h1 : y < 2000 ∨ 2099 < y
    · exact .inl ⟨10, numE_10 y m d hb h1, .inl rfl⟩
    · have := Cal.num_bd y m d (by omega) (by omega) hb
      exact .inr ⟨_, numE_0 y m d hb (by omega) (by omega), this.1, this.2⟩

theorem results_5 {fn : Func} {p t u v : Tmp} {ty : TypeId} (h : fn.results = #[.cell p ty, .tmp t, .tmp u, .tmp v]) (tmps : Array Value) (P : Program) (w : World) :
    (results fn tmps).run P w =
      ((asAddr (tmps.getD p undef)).run P w).andThen fun a w₁ => ((loadVar ty a).run P w₁).andThen fun x w₂ => .ok (.tuple #[x, tmps.getD t undef, tmps.getD u undef, tmps.getD v undef]) w₂ := by
  simp only [results, h]
  simp [Sem.run_bind, Result.andThen]

end Go.Proofs.YtojhajlhbhkddaaDoor

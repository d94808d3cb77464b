/- Walks of package days: all days from one to another. -/
import Derived.Test.YtdmplojfidkipaaRuX
import Derived.Test.YtdmplojfidkipaaDaMath
namespace Go.Proofs.Ytdmplojfidkipaa
open Go.RowKit Rul Go.Sort

/-- a call answers a row of its own. -/
def GivesI (w : World) (l : List Int) (e : Ending) (w' : World) : Prop := ∃ v, e = .returned v ∧ OwnI w' w.heap.size v l ∧ Below w.heap.size w w'
theorem GivesI.is {w : World} {l k : List Int} {e : Ending} {w' : World} (h : GivesI w l e w') (he : l = k) : GivesI w k e w' := he ▸ h
theorem OwnI.low {w : World} {B B2 : Nat} {v : Value} {l : List Int} (h : OwnI w B v l) (hb : B2 ≤ B) : OwnI w B2 v l := by
  refine ⟨h.1, ?_⟩
  rcases h.2 with g | ⟨g, cap, cur, e, hg, r⟩
  · exact Or.inl g
  · exact Or.inr ⟨g, cap, cur, e, Nat.le_trans hb hg, r⟩
theorem wp_makeI {ops : Array Oper} {rest : List Oper} {o : Oper} {a : Act} {Q : Exit → Act → World → Prop} {w : World} (hgd : o.guard = none) (l c : Operand)
    (ho : o.op = .makeSlice 23 l c) (hl : a.eval l = .int .i64 0) {C : Int} {n : Nat} (hc : a.eval c = .int .i64 C) (hC : C = (n : Int)) (hn : n ≤ 1000000)
    (h : ∀ v w', OwnI w' w.heap.size v [] → Below w.heap.size w w' → wpList Try.prog ops Q rest (a.put o.dst v) w') :
    wpList Try.prog ops Q (o :: rest) a w := by
  obtain ⟨i0, hi, hz0, hz1, hz2⟩ := info_parts int_info
  refine wpList_make_own w hgd l c 23 ho w.heap.size 3 i0 _ 1 Try.underlying23 hi hz0 hz1 .i64 .i64 C n hl hc hC (by rw [hz2]; omega) (by unfold maxLen; omega) (Nat.le_refl _) ?_
  intro w' h2 h3
  exact h _ w' h2 ((Below.refl w.heap.size w).grown h3 (Nat.le_refl _) fun j hj => by cases hj)

set_option maxRecDepth 100000 in
set_option maxHeartbeats 1000000 in
theorem allFrom_any (a b : Int) (w : World) (h0 : 0 ≤ a) (h1 : a ≤ b) (h2 : b ≤ 36525) :
    Calls Try.prog 66 #[.int .i64 a, .int .i64 b] w (GivesI w (upto a b)) := by
  go_enter Try.func66, Try.ntmps66
  go_wp2_with (refine wp_makeI rfl _ _ rfl rfl (n := (b - a).toNat) rfl (by omega) (by omega) ?_; intro v0 w0 hown0 hb0)
  go_loopw [5, 6] (fun v i wr => ∃ d : Int, a ≤ d ∧ d ≤ b ∧ i = .int .i64 d ∧ OwnI wr w.heap.size v (upto a d) ∧ Below w.heap.size w wr) (fun _ i _ => (b - intOf i).toNat)
  case atStart => exact ⟨a, Int.le_refl _, h1, rfl, by rw [upto_nil]; exact hown0, hb0⟩
  case round =>
    obtain ⟨d, d1, d2, rfl, hown, hbw⟩ := hrel
    by_cases hlt : d < b
    · have HN := hide (upto_succ a d d1)
      have hsz := hbw.size
      have hlen : (upto a d).length ≤ 1000000 := by rw [upto_len]; omega
      go_wp2_with (at_builtin; refine wp_oneI (l := upto a d) (p := d) rfl _ _ rfl rfl rfl rfl hown hsz hlen ?_; intro v1 w1 hown1 hb1)
      have HO := hide hown1
      have HB := hide (hbw.trans hb1)
      clear hown hown1 hb1 hbw
      go_wp2_with fail
      go_roundw
      case rel => exact ⟨d + 1, by omega, by omega, by go_num, by rw [HN.out]; exact HO.out, HB.out⟩
      case measure => simp [intOf]; omega
    · obtain rfl : d = b := by omega
      have HO := hide hown
      have HB := hide hbw
      clear hown hbw
      go_wp2_with fail
      go_ret
      exact ⟨_, rfl, HO.out, HB.out⟩

end Go.Proofs.Ytdmplojfidkipaa

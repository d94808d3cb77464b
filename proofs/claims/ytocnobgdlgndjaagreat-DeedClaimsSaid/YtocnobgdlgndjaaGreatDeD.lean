/- Package deed and the document's: are these the claims of a deed? Written by recipes/de3.py. -/
import Derived.Test.YtocnobgdlgndjaaGreatDeC
import Derived.Test.YtocnobgdlgndjaaGreatBC4
import Derived.Test.YtocnobgdlgndjaaGreatBC7
namespace Go.Proofs.YtocnobgdlgndjaaGreat
open Go.RowKit Rul De Cl Go.Sort

theorem S2.neatC_le (l : List C) : (neatC l).length ≤ 8 * l.length := S2.outC_le (neatF l) l.length fun r _ => S2.neatF_len l r
set_option maxHeartbeats 1600000 in
theorem dneat_any (A : Option Addr) (c : Nat) (l : List C) (b : Bool) (w : World) (h : S2.RowC w A l) (hn : l.length ≤ 300) (hb : neatB l = b) :
    Calls Tryz.prog 25 #[.slice A l.length c] w (Ans w (.bool b)) := by
  have HR := hide h
  have HN := hide hn
  subst hb
  by_cases h0 : 0 < l.length
  · have e0 : (0 : Int) < (l.length : Int) := by omega
    by_cases h1 : l.length ≤ 160
    · have e1 : (l.length : Int) ≤ 160 := by omega
      have HE := hide (show neatB l = decide (l = neatC l) by unfold neatB; rw [decide_eq_true h0, decide_eq_true h1, Bool.true_and, Bool.true_and])
      have HL := hide (S2.neatC_le l)
      clear h hn h0 h1
      go_enter Tryz.func25, Tryz.ntmps25
      go_wp2_with fail
      refine (S2.Neat_any A _ c l _ HR.out rfl (by have := HN.out; omega)).mono ?_
      rintro q w1 ⟨v, rfl, ho, hb⟩
      obtain ⟨A2, c2, rfl, hr⟩ := S2.OwnC.row ho
      have HR2 := hide hr
      have HB := hide hb
      replace HR := hide (HR.out.keep hb)
      clear ho hr hb
      go_wp2_with fail
      refine (S2.equalC_any A A2 _ _ c c2 l (neatC l) _ HR.out HR2.out rfl rfl (by have := HN.out; omega) (by have := HN.out; have := HL.out; omega)).mono ?_
      rintro q w2 ⟨rfl, hb⟩
      replace HB := hide (andthen HB.out hb)
      clear hb
      go_wp2_with fail
      go_ret
      exact ⟨ret_bool HE.out.symm, HB.out⟩
    · have e1 : ¬ (l.length : Int) ≤ 160 := by omega
      have HE := hide (show neatB l = false by unfold neatB; rw [decide_eq_false h1, Bool.false_and, Bool.and_false])
      clear h hn h0 h1
      go_enter Tryz.func25, Tryz.ntmps25
      go_wp2_with fail
      go_ret
      exact ⟨ret_bool HE.out.symm, start _⟩
  · have e0 : ¬ (0 : Int) < (l.length : Int) := by omega
    have HE := hide (show neatB l = false by unfold neatB; rw [decide_eq_false h0, Bool.false_and])
    clear h hn h0
    go_enter Tryz.func25, Tryz.ntmps25
    go_wp2_with fail
    go_ret
    exact ⟨ret_bool HE.out.symm, start _⟩
set_option maxHeartbeats 1600000 in
theorem rneat_any (A : Option Addr) (c : Nat) (l : List C) (b : Bool) (w : World) (h : S2.RowC w A l) (hn : l.length ≤ 300) (hb : neatB l = b) :
    Calls Tryz.prog 30 #[.slice A l.length c] w (Ans w (.bool b)) := by
  have HR := hide h
  have HN := hide hn
  subst hb
  by_cases h0 : 0 < l.length
  · have e0 : (0 : Int) < (l.length : Int) := by omega
    by_cases h1 : l.length ≤ 160
    · have e1 : (l.length : Int) ≤ 160 := by omega
      have HE := hide (show neatB l = decide (l = neatC l) by unfold neatB; rw [decide_eq_true h0, decide_eq_true h1, Bool.true_and, Bool.true_and])
      have HL := hide (S2.neatC_le l)
      clear h hn h0 h1
      go_enter Tryz.func30, Tryz.ntmps30
      go_wp2_with fail
      refine (S2.R.Neat_any A _ c l _ HR.out rfl (by have := HN.out; omega)).mono ?_
      rintro q w1 ⟨v, rfl, ho, hb⟩
      obtain ⟨A2, c2, rfl, hr⟩ := S2.OwnC.row ho
      have HR2 := hide hr
      have HB := hide hb
      replace HR := hide (HR.out.keep hb)
      clear ho hr hb
      go_wp2_with fail
      refine (S2.R.equalC_any A A2 _ _ c c2 l (neatC l) _ HR.out HR2.out rfl rfl (by have := HN.out; omega) (by have := HN.out; have := HL.out; omega)).mono ?_
      rintro q w2 ⟨rfl, hb⟩
      replace HB := hide (andthen HB.out hb)
      clear hb
      go_wp2_with fail
      go_ret
      exact ⟨ret_bool HE.out.symm, HB.out⟩
    · have e1 : ¬ (l.length : Int) ≤ 160 := by omega
      have HE := hide (show neatB l = false by unfold neatB; rw [decide_eq_false h1, Bool.false_and, Bool.and_false])
      clear h hn h0 h1
      go_enter Tryz.func30, Tryz.ntmps30
      go_wp2_with fail
      go_ret
      exact ⟨ret_bool HE.out.symm, start _⟩
  · have e0 : ¬ (0 : Int) < (l.length : Int) := by omega
    have HE := hide (show neatB l = false by unfold neatB; rw [decide_eq_false h0, Bool.false_and])
    clear h hn h0
    go_enter Tryz.func30, Tryz.ntmps30
    go_wp2_with fail
    go_ret
    exact ⟨ret_bool HE.out.symm, start _⟩
end Go.Proofs.YtocnobgdlgndjaaGreat

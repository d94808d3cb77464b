/- EvFw; EvPh of the recipes, what is needed of them. -/
import Derived.Test.YtgdjeddelcfgeaaGreatDoorYEvKo
import Derived.Test.YtgdjeddelcfgeaaGreatDoorYM3
import Derived.Test.YtgdjeddelcfgeaaGreatDoorYW2
namespace Go.Proofs.YtgdjeddelcfgeaaGreatDoor
open Go.RowKit Rul Rt Go.Sort

theorem few10_any (fr ev ct un : Int) (D M Y : Option Addr) (dn dc mn mc yn yc : Nat) (w : World) :
  Calls Tryz.prog 23 #[.agg #[.int .i64 fr,.int .i64 ev,.int .i64 ct,.int .i64 un,.slice D dn dc,.slice M mn mc,.slice Y yn yc]] w (Ans w (.bool (decide (dn ≤ 20) && decide (mn ≤ 20) && decide (yn ≤ 20)))):=by
 have q:=box_cells w 25 (.int .i64 fr) (.int .i64 ev) (.int .i64 ct) (.int .i64 un) (.slice D dn dc) (.slice M mn mc) (.slice Y yn yc) rfl
 have HB:=hide (more (start w) (.cells #[.int .i64 fr,.int .i64 ev,.int .i64 ct,.int .i64 un,.slice D dn dc,.slice M mn mc,.slice Y yn yc] 25))
 obtain ⟨q0,q1,q2,q3,q4,q5,q6⟩:=q
 clear q0 q1 q2 q3
 by_cases h0 : dn ≤ 20
 ·by_cases h1 : mn ≤ 20
  ·by_cases h2 : yn ≤ 20
   ·rw [decide_eq_true h0,decide_eq_true h1,decide_eq_true h2]
    have i0 : (dn : Int) ≤ 20:=by omega
    have i1 : (mn : Int) ≤ 20:=by omega
    have i2 : (yn : Int) ≤ 20:=by omega
    go_enter Tryz.func23,Tryz.ntmps23
    go_wp2_with fail
    go_ret
    exact ⟨rfl,HB.out⟩
   ·rw [decide_eq_true h0,decide_eq_true h1,decide_eq_false h2]
    have i0 : (dn : Int) ≤ 20:=by omega
    have i1 : (mn : Int) ≤ 20:=by omega
    have i2 : ¬ (yn : Int) ≤ 20:=by omega
    go_enter Tryz.func23,Tryz.ntmps23
    go_wp2_with fail
    go_ret
    exact ⟨rfl,HB.out⟩
  ·rw [decide_eq_true h0,decide_eq_false h1]
   have i0 : (dn : Int) ≤ 20:=by omega
   have i1 : ¬ (mn : Int) ≤ 20:=by omega
   go_enter Tryz.func23,Tryz.ntmps23
   go_wp2_with fail
   go_ret
   exact ⟨rfl,HB.out⟩
 ·rw [decide_eq_false h0]
  have i0 : ¬ (dn : Int) ≤ 20:=by omega
  go_enter Tryz.func23,Tryz.ntmps23
  go_wp2_with fail
  go_ret
  exact ⟨rfl,HB.out⟩

def fewEB (dn mn yn us ts on xn : Nat) : Bool:=(decide (dn ≤ 20) && decide (mn ≤ 20) && decide (yn ≤ 20)) && decide (us ≤ 30) && decide (ts ≤ 60) && decide (on ≤ 10) && decide (xn ≤ 20)
theorem fewEB_iff (dn mn yn us ts on xn : Nat) : fewEB dn mn yn us ts on xn = true ↔ dn ≤ 20 ∧ mn ≤ 20 ∧ yn ≤ 20 ∧ us ≤ 30 ∧ ts ≤ 60 ∧ on ≤ 10 ∧ xn ≤ 20:=by simp [fewEB,and_assoc]
set_option maxRecDepth 100000 in
set_option maxHeartbeats 2000000 in
theorem fewE_any (U T : ByteArray) (s l : Int) (O : Option Addr) (on oc : Nat) (fr ev ct un : Int) (D M Y X : Option Addr) (dn dc mn mc yn yc xn xc : Nat) (w : World) :
  Calls Tryz.prog 10 #[.agg #[.string U,.string T,.int .i64 s,.int .i64 l,.slice O on oc,.int .i64 fr,.int .i64 ev,.int .i64 ct,.int .i64 un,.slice D dn dc,.slice M mn mc,.slice Y yn yc,.slice X xn xc]] w (Ans w (.bool (fewEB dn mn yn U.size T.size on xn))):=by
 have hk:=blk_new w #[.string U,.string T,.int .i64 s,.int .i64 l,.slice O on oc,.int .i64 fr,.int .i64 ev,.int .i64 ct,.int .i64 un,.slice D dn dc,.slice M mn mc,.slice Y yn yc,.slice X xn xc] 27
 have HB:=hide (more (start w) (.cells #[.string U,.string T,.int .i64 s,.int .i64 l,.slice O on oc,.int .i64 fr,.int .i64 ev,.int .i64 ct,.int .i64 un,.slice D dn dc,.slice M mn mc,.slice Y yn yc,.slice X xn xc] 27))
 have s0:=hk.cell 0 (by simp)
 have s1:=hk.cell 1 (by simp)
 have s4:=hk.cell 4 (by simp)
 have s5:=hk.cell 5 (by simp)
 have s6:=hk.cell 6 (by simp)
 have s7:=hk.cell 7 (by simp)
 have s8:=hk.cell 8 (by simp)
 have s9:=hk.cell 9 (by simp)
 have s10:=hk.cell 10 (by simp)
 have s11:=hk.cell 11 (by simp)
 have s12:=hk.cell 12 (by simp)
 simp only [List.getElem_cons_zero,List.getElem_cons_succ] at s0 s1 s4 s5 s6 s7 s8 s9 s10 s11 s12
 clear hk
 obtain ⟨b,hb⟩ : ∃ b,(decide (dn ≤ 20) && decide (mn ≤ 20) && decide (yn ≤ 20)) = b:=⟨_,rfl⟩
 have HFB:=hide hb
 cases b
 ·have HV:=hide (show fewEB dn mn yn U.size T.size on xn = false from by unfold fewEB; rw [hb]; rfl)
  clear hb
  go_enter Tryz.func10,Tryz.ntmps10
  go_wp2_with fail
  refine (ans_is (few10_any fr ev ct un D M Y dn dc mn mc yn yc _) HFB.out).mono ?_
  rintro e w1 ⟨rfl,hb1⟩
  replace HB:=hide (andthen HB.out hb1)
  replace s0:=cell_keep hb1 s0
  replace s1:=cell_keep hb1 s1
  replace s4:=cell_keep hb1 s4
  replace s12:=cell_keep hb1 s12
  clear s5 s6 s7 s8 s9 s10 s11 hb1
  go_wp2_with fail
  go_ret
  rw [HV.out]
  first | exact ⟨rfl,HB.out⟩ | exact ⟨ret_bool (decide_eq_true (by omega)),HB.out⟩ | exact ⟨ret_bool (decide_eq_false (by omega)),HB.out⟩
 ·by_cases g0 : U.size ≤ 30
  ·by_cases g1 : T.size ≤ 60
   ·by_cases g2 : on ≤ 10
    ·by_cases g3 : xn ≤ 20
     ·have i0 : (U.size : Int) ≤ 30:=by omega
      have i1 : (T.size : Int) ≤ 60:=by omega
      have i2 : (on : Int) ≤ 10:=by omega
      have i3 : (xn : Int) ≤ 20:=by omega
      have HV:=hide (show fewEB dn mn yn U.size T.size on xn = true from by unfold fewEB; rw [hb,decide_eq_true g0,decide_eq_true g1,decide_eq_true g2,decide_eq_true g3]; rfl)
      clear hb
      go_enter Tryz.func10,Tryz.ntmps10
      go_wp2_with fail
      refine (ans_is (few10_any fr ev ct un D M Y dn dc mn mc yn yc _) HFB.out).mono ?_
      rintro e w1 ⟨rfl,hb1⟩
      replace HB:=hide (andthen HB.out hb1)
      replace s0:=cell_keep hb1 s0
      replace s1:=cell_keep hb1 s1
      replace s4:=cell_keep hb1 s4
      replace s12:=cell_keep hb1 s12
      clear s5 s6 s7 s8 s9 s10 s11 hb1
      go_wp2_with fail
      go_ret
      rw [HV.out]
      first | exact ⟨rfl,HB.out⟩ | exact ⟨ret_bool (decide_eq_true (by omega)),HB.out⟩ | exact ⟨ret_bool (decide_eq_false (by omega)),HB.out⟩
     ·have i0 : (U.size : Int) ≤ 30:=by omega
      have i1 : (T.size : Int) ≤ 60:=by omega
      have i2 : (on : Int) ≤ 10:=by omega
      have i3 : ¬ (xn : Int) ≤ 20:=by omega
      have HV:=hide (show fewEB dn mn yn U.size T.size on xn = false from by unfold fewEB; rw [hb,decide_eq_true g0,decide_eq_true g1,decide_eq_true g2,decide_eq_false g3]; rfl)
      clear hb
      go_enter Tryz.func10,Tryz.ntmps10
      go_wp2_with fail
      refine (ans_is (few10_any fr ev ct un D M Y dn dc mn mc yn yc _) HFB.out).mono ?_
      rintro e w1 ⟨rfl,hb1⟩
      replace HB:=hide (andthen HB.out hb1)
      replace s0:=cell_keep hb1 s0
      replace s1:=cell_keep hb1 s1
      replace s4:=cell_keep hb1 s4
      replace s12:=cell_keep hb1 s12
      clear s5 s6 s7 s8 s9 s10 s11 hb1
      go_wp2_with fail
      go_ret
      rw [HV.out]
      first | exact ⟨rfl,HB.out⟩ | exact ⟨ret_bool (decide_eq_true (by omega)),HB.out⟩ | exact ⟨ret_bool (decide_eq_false (by omega)),HB.out⟩
    ·have i0 : (U.size : Int) ≤ 30:=by omega
     have i1 : (T.size : Int) ≤ 60:=by omega
     have i2 : ¬ (on : Int) ≤ 10:=by omega
     have HV:=hide (show fewEB dn mn yn U.size T.size on xn = false from by unfold fewEB; rw [hb,decide_eq_true g0,decide_eq_true g1,decide_eq_false g2]; rfl)
     clear hb
     go_enter Tryz.func10,Tryz.ntmps10
     go_wp2_with fail
     refine (ans_is (few10_any fr ev ct un D M Y dn dc mn mc yn yc _) HFB.out).mono ?_
     rintro e w1 ⟨rfl,hb1⟩
     replace HB:=hide (andthen HB.out hb1)
     replace s0:=cell_keep hb1 s0
     replace s1:=cell_keep hb1 s1
     replace s4:=cell_keep hb1 s4
     replace s12:=cell_keep hb1 s12
     clear s5 s6 s7 s8 s9 s10 s11 hb1
     go_wp2_with fail
     go_ret
     rw [HV.out]
     first | exact ⟨rfl,HB.out⟩ | exact ⟨ret_bool (decide_eq_true (by omega)),HB.out⟩ | exact ⟨ret_bool (decide_eq_false (by omega)),HB.out⟩
   ·have i0 : (U.size : Int) ≤ 30:=by omega
    have i1 : ¬ (T.size : Int) ≤ 60:=by omega
    have HV:=hide (show fewEB dn mn yn U.size T.size on xn = false from by unfold fewEB; rw [hb,decide_eq_true g0,decide_eq_false g1]; rfl)
    clear hb
    go_enter Tryz.func10,Tryz.ntmps10
    go_wp2_with fail
    refine (ans_is (few10_any fr ev ct un D M Y dn dc mn mc yn yc _) HFB.out).mono ?_
    rintro e w1 ⟨rfl,hb1⟩
    replace HB:=hide (andthen HB.out hb1)
    replace s0:=cell_keep hb1 s0
    replace s1:=cell_keep hb1 s1
    replace s4:=cell_keep hb1 s4
    replace s12:=cell_keep hb1 s12
    clear s5 s6 s7 s8 s9 s10 s11 hb1
    go_wp2_with fail
    go_ret
    rw [HV.out]
    first | exact ⟨rfl,HB.out⟩ | exact ⟨ret_bool (decide_eq_true (by omega)),HB.out⟩ | exact ⟨ret_bool (decide_eq_false (by omega)),HB.out⟩
  ·have i0 : ¬ (U.size : Int) ≤ 30:=by omega
   have HV:=hide (show fewEB dn mn yn U.size T.size on xn = false from by unfold fewEB; rw [hb,decide_eq_false g0]; rfl)
   clear hb
   go_enter Tryz.func10,Tryz.ntmps10
   go_wp2_with fail
   refine (ans_is (few10_any fr ev ct un D M Y dn dc mn mc yn yc _) HFB.out).mono ?_
   rintro e w1 ⟨rfl,hb1⟩
   replace HB:=hide (andthen HB.out hb1)
   replace s0:=cell_keep hb1 s0
   replace s1:=cell_keep hb1 s1
   replace s4:=cell_keep hb1 s4
   replace s12:=cell_keep hb1 s12
   clear s5 s6 s7 s8 s9 s10 s11 hb1
   go_wp2_with fail
   go_ret
   rw [HV.out]
   first | exact ⟨rfl,HB.out⟩ | exact ⟨ret_bool (decide_eq_true (by omega)),HB.out⟩ | exact ⟨ret_bool (decide_eq_false (by omega)),HB.out⟩

end Go.Proofs.YtgdjeddelcfgeaaGreatDoor
namespace Go.Proofs.YtgdjeddelcfgeaaGreatDoor
open Go.RowKit Rul Rt Go.Sort

theorem eis_at (e : Ev.E) (m : Mem) (b : Bool) (w : World) (h : EvL w e m) (hb : Ev.isE e = b) : Calls Tryz.prog 11 #[evV e m] w (Ans w (.bool b)):=hb ▸ eIs_any e m w h
theorem esame_at (e f : Ev.E) (m n : Mem) (b : Bool) (w : World) (h : EvL w e m) (k : EvL w f n) (hb : Ev.sameE e f = b) : Calls Tryz.prog 13 #[evV e m,evV f n] w (Ans w (.bool b)):=hb ▸ eSame_any e f m n w h k
end Go.Proofs.YtgdjeddelcfgeaaGreatDoor

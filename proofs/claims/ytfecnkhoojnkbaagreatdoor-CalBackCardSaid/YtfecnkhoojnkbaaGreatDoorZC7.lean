/- CaFw; CaShF of the recipes, what is needed of them. -/
import Derived.Test.YtfecnkhoojnkbaaGreatDoorZC1
import Derived.Test.YtfecnkhoojnkbaaGreatDoorZM4
set_option maxHeartbeats 8000000
set_option maxRecDepth 100000
namespace Go.Proofs.YtfecnkhoojnkbaaGreatDoor
open Go.RowKit Rul Rt Go.Sort
theorem few10_any (fr ev ct un : Int) (D M Y : Option Addr) (dn dc mn mc yn yc : Nat) (w : World) :
  Calls Tryz.prog 25 #[.agg #[.int .i64 fr,.int .i64 ev,.int .i64 ct,.int .i64 un,.slice D dn dc,.slice M mn mc,.slice Y yn yc]] w (Ans w (.bool (decide (dn <= 20) && decide (mn <= 20) && decide (yn <= 20)))):=by
 have q:=box_cells w 44 (.int .i64 fr) (.int .i64 ev) (.int .i64 ct) (.int .i64 un) (.slice D dn dc) (.slice M mn mc) (.slice Y yn yc) rfl
 have HB:=hide (more (start w) (.cells #[.int .i64 fr,.int .i64 ev,.int .i64 ct,.int .i64 un,.slice D dn dc,.slice M mn mc,.slice Y yn yc] 44))
 obtain ⟨q0,q1,q2,q3,q4,q5,q6⟩:=q
 clear q0 q1 q2 q3
 by_cases h0 : dn <= 20
 ·by_cases h1 : mn <= 20
  ·by_cases h2 : yn <= 20
   ·rw [decide_eq_true h0,decide_eq_true h1,decide_eq_true h2]
    have i0 : (dn : Int) <= 20:=by omega
    have i1 : (mn : Int) <= 20:=by omega
    have i2 : (yn : Int) <= 20:=by omega
    go_enter Tryz.func25,Tryz.ntmps25
    go_wp2_with fail
    go_ret
    exact ⟨rfl,HB.out⟩
   ·rw [decide_eq_true h0,decide_eq_true h1,decide_eq_false h2]
    have i0 : (dn : Int) <= 20:=by omega
    have i1 : (mn : Int) <= 20:=by omega
    have i2 : ¬ (yn : Int) <= 20:=by omega
    go_enter Tryz.func25,Tryz.ntmps25
    go_wp2_with fail
    go_ret
    exact ⟨rfl,HB.out⟩
  ·rw [decide_eq_true h0,decide_eq_false h1]
   have i0 : (dn : Int) <= 20:=by omega
   have i1 : ¬ (mn : Int) <= 20:=by omega
   go_enter Tryz.func25,Tryz.ntmps25
   go_wp2_with fail
   go_ret
   exact ⟨rfl,HB.out⟩
 ·rw [decide_eq_false h0]
  have i0 : ¬ (dn : Int) <= 20:=by omega
  go_enter Tryz.func25,Tryz.ntmps25
  go_wp2_with fail
  go_ret
  exact ⟨rfl,HB.out⟩
def fewEB (dn mn yn us ts on xn : Nat) : Bool:=(decide (dn <= 20) && decide (mn <= 20) && decide (yn <= 20)) && decide (us <= 30) && decide (ts <= 60) && decide (on <= 10) && decide (xn <= 20)
theorem fewEB_iff (dn mn yn us ts on xn : Nat) : fewEB dn mn yn us ts on xn = true ↔ dn <= 20 /\ mn <= 20 /\ yn <= 20 /\ us <= 30 /\ ts <= 60 /\ on <= 10 /\ xn <= 20:=by simp [fewEB,and_assoc]
theorem fewE_any (U T : ByteArray) (s l : Int) (O : Option Addr) (on oc : Nat) (fr ev ct un : Int) (D M Y X : Option Addr) (dn dc mn mc yn yc xn xc : Nat) (w : World) :
  Calls Tryz.prog 15 #[.agg #[.string U,.string T,.int .i64 s,.int .i64 l,.slice O on oc,.int .i64 fr,.int .i64 ev,.int .i64 ct,.int .i64 un,.slice D dn dc,.slice M mn mc,.slice Y yn yc,.slice X xn xc]] w (Ans w (.bool (fewEB dn mn yn U.size T.size on xn))):=by
 have hk:=blk_new w #[.string U,.string T,.int .i64 s,.int .i64 l,.slice O on oc,.int .i64 fr,.int .i64 ev,.int .i64 ct,.int .i64 un,.slice D dn dc,.slice M mn mc,.slice Y yn yc,.slice X xn xc] 47
 have HB:=hide (more (start w) (.cells #[.string U,.string T,.int .i64 s,.int .i64 l,.slice O on oc,.int .i64 fr,.int .i64 ev,.int .i64 ct,.int .i64 un,.slice D dn dc,.slice M mn mc,.slice Y yn yc,.slice X xn xc] 47))
 have s0:=hk.cell 0 (by simp)
 have s1:=hk.cell 1 (by simp)
 have s4:=hk.cell 4 (by simp)
 have s5:=hk.cell 5 (by simp)
 have s6:=hk.cell 6 (by simp)
 have s7:=hk.cell 7 (by simp)
 have s8:=hk.cell 8 (by simp)
 have s9:=hk.cell 9 (by simp)
 have s10:=hk.cell 10 (by simp)
 have s11:=hk.cell 11 (by simp)
 have s12:=hk.cell 12 (by simp)
 simp only [List.getElem_cons_zero,List.getElem_cons_succ] at s0 s1 s4 s5 s6 s7 s8 s9 s10 s11 s12
 clear hk
 obtain ⟨b,hb⟩ : ∃ b,(decide (dn <= 20) && decide (mn <= 20) && decide (yn <= 20)) = b:=⟨_,rfl⟩
 have HFB:=hide hb
 cases b
 ·have HV:=hide (show fewEB dn mn yn U.size T.size on xn = false from by unfold fewEB; rw [hb]; rfl)
  clear hb
  go_enter Tryz.func15,Tryz.ntmps15
  go_wp2_with fail
  refine (ans_is (few10_any fr ev ct un D M Y dn dc mn mc yn yc _) HFB.out).mono ?_
  rintro e w1 ⟨rfl,hb1⟩
  replace HB:=hide (andthen HB.out hb1)
  replace s0:=cell_keep hb1 s0
  replace s1:=cell_keep hb1 s1
  replace s4:=cell_keep hb1 s4
  replace s12:=cell_keep hb1 s12
  clear s5 s6 s7 s8 s9 s10 s11 hb1
  go_wp2_with fail
  go_ret
  rw [HV.out]
  first | exact ⟨rfl,HB.out⟩ | exact ⟨ret_bool (decide_eq_true (by omega)),HB.out⟩ | exact ⟨ret_bool (decide_eq_false (by omega)),HB.out⟩
 ·by_cases g0 : U.size <= 30
  ·by_cases g1 : T.size <= 60
   ·by_cases g2 : on <= 10
    ·by_cases g3 : xn <= 20
     ·have i0 : (U.size : Int) <= 30:=by omega
      have i1 : (T.size : Int) <= 60:=by omega
      have i2 : (on : Int) <= 10:=by omega
      have i3 : (xn : Int) <= 20:=by omega
      have HV:=hide (show fewEB dn mn yn U.size T.size on xn = true from by unfold fewEB; rw [hb,decide_eq_true g0,decide_eq_true g1,decide_eq_true g2,decide_eq_true g3]; rfl)
      clear hb
      go_enter Tryz.func15,Tryz.ntmps15
      go_wp2_with fail
      refine (ans_is (few10_any fr ev ct un D M Y dn dc mn mc yn yc _) HFB.out).mono ?_
      rintro e w1 ⟨rfl,hb1⟩
      replace HB:=hide (andthen HB.out hb1)
      replace s0:=cell_keep hb1 s0
      replace s1:=cell_keep hb1 s1
      replace s4:=cell_keep hb1 s4
      replace s12:=cell_keep hb1 s12
      clear s5 s6 s7 s8 s9 s10 s11 hb1
      go_wp2_with fail
      go_ret
      rw [HV.out]
      first | exact ⟨rfl,HB.out⟩ | exact ⟨ret_bool (decide_eq_true (by omega)),HB.out⟩ | exact ⟨ret_bool (decide_eq_false (by omega)),HB.out⟩
     ·have i0 : (U.size : Int) <= 30:=by omega
      have i1 : (T.size : Int) <= 60:=by omega
      have i2 : (on : Int) <= 10:=by omega
      have i3 : ¬ (xn : Int) <= 20:=by omega
      have HV:=hide (show fewEB dn mn yn U.size T.size on xn = false from by unfold fewEB; rw [hb,decide_eq_true g0,decide_eq_true g1,decide_eq_true g2,decide_eq_false g3]; rfl)
      clear hb
      go_enter Tryz.func15,Tryz.ntmps15
      go_wp2_with fail
      refine (ans_is (few10_any fr ev ct un D M Y dn dc mn mc yn yc _) HFB.out).mono ?_
      rintro e w1 ⟨rfl,hb1⟩
      replace HB:=hide (andthen HB.out hb1)
      replace s0:=cell_keep hb1 s0
      replace s1:=cell_keep hb1 s1
      replace s4:=cell_keep hb1 s4
      replace s12:=cell_keep hb1 s12
      clear s5 s6 s7 s8 s9 s10 s11 hb1
      go_wp2_with fail
      go_ret
      rw [HV.out]
      first | exact ⟨rfl,HB.out⟩ | exact ⟨ret_bool (decide_eq_true (by omega)),HB.out⟩ | exact ⟨ret_bool (decide_eq_false (by omega)),HB.out⟩
    ·have i0 : (U.size : Int) <= 30:=by omega
     have i1 : (T.size : Int) <= 60:=by omega
     have i2 : ¬ (on : Int) <= 10:=by omega
     have HV:=hide (show fewEB dn mn yn U.size T.size on xn = false from by unfold fewEB; rw [hb,decide_eq_true g0,decide_eq_true g1,decide_eq_false g2]; rfl)
     clear hb
     go_enter Tryz.func15,Tryz.ntmps15
     go_wp2_with fail
     refine (ans_is (few10_any fr ev ct un D M Y dn dc mn mc yn yc _) HFB.out).mono ?_
     rintro e w1 ⟨rfl,hb1⟩
     replace HB:=hide (andthen HB.out hb1)
     replace s0:=cell_keep hb1 s0
     replace s1:=cell_keep hb1 s1
     replace s4:=cell_keep hb1 s4
     replace s12:=cell_keep hb1 s12
     clear s5 s6 s7 s8 s9 s10 s11 hb1
     go_wp2_with fail
     go_ret
     rw [HV.out]
     first | exact ⟨rfl,HB.out⟩ | exact ⟨ret_bool (decide_eq_true (by omega)),HB.out⟩ | exact ⟨ret_bool (decide_eq_false (by omega)),HB.out⟩
   ·have i0 : (U.size : Int) <= 30:=by omega
    have i1 : ¬ (T.size : Int) <= 60:=by omega
    have HV:=hide (show fewEB dn mn yn U.size T.size on xn = false from by unfold fewEB; rw [hb,decide_eq_true g0,decide_eq_false g1]; rfl)
    clear hb
    go_enter Tryz.func15,Tryz.ntmps15
    go_wp2_with fail
    refine (ans_is (few10_any fr ev ct un D M Y dn dc mn mc yn yc _) HFB.out).mono ?_
    rintro e w1 ⟨rfl,hb1⟩
    replace HB:=hide (andthen HB.out hb1)
    replace s0:=cell_keep hb1 s0
    replace s1:=cell_keep hb1 s1
    replace s4:=cell_keep hb1 s4
    replace s12:=cell_keep hb1 s12
    clear s5 s6 s7 s8 s9 s10 s11 hb1
    go_wp2_with fail
    go_ret
    rw [HV.out]
    first | exact ⟨rfl,HB.out⟩ | exact ⟨ret_bool (decide_eq_true (by omega)),HB.out⟩ | exact ⟨ret_bool (decide_eq_false (by omega)),HB.out⟩
  ·have i0 : ¬ (U.size : Int) <= 30:=by omega
   have HV:=hide (show fewEB dn mn yn U.size T.size on xn = false from by unfold fewEB; rw [hb,decide_eq_false g0]; rfl)
   clear hb
   go_enter Tryz.func15,Tryz.ntmps15
   go_wp2_with fail
   refine (ans_is (few10_any fr ev ct un D M Y dn dc mn mc yn yc _) HFB.out).mono ?_
   rintro e w1 ⟨rfl,hb1⟩
   replace HB:=hide (andthen HB.out hb1)
   replace s0:=cell_keep hb1 s0
   replace s1:=cell_keep hb1 s1
   replace s4:=cell_keep hb1 s4
   replace s12:=cell_keep hb1 s12
   clear s5 s6 s7 s8 s9 s10 s11 hb1
   go_wp2_with fail
   go_ret
   rw [HV.out]
   first | exact ⟨rfl,HB.out⟩ | exact ⟨ret_bool (decide_eq_true (by omega)),HB.out⟩ | exact ⟨ret_bool (decide_eq_false (by omega)),HB.out⟩
end Go.Proofs.YtfecnkhoojnkbaaGreatDoor
namespace Go.Proofs.YtfecnkhoojnkbaaGreatDoor.Ca
open Go.Proofs.YtfecnkhoojnkbaaGreatDoor Rul Rt Li Fo Ev
def shEv : List Tx:=[[66,69,71,73,78,58,86,69,86,69,78,84],
 [85,73,68,58,97],
 [68,84,83,84,65,82,84,58,50,48,48,48,48,49,48,49,84,48,48,48,48,48,48],
 [68,85,82,65,84,73,79,78,58,80,84,53,77],
 [88,45,82,79,79,77,83,58,49],
 [69,78,68,58,86,69,86,69,78,84]]
def shHead (s : Bool) : Tx:=if s = true then [98,101,103,105,110,58,118,99,97,108,101,110,100,97,114] else [66,69,71,73,78,58,86,67,65,76,69,78,68,65,82]
def shEnd (s : Bool) : Tx:=if s = true then [101,110,100,58,118,67,97,108,101,110,100,97,114] else [69,78,68,58,86,67,65,76,69,78,68,65,82]
def badL (s : Bool) : Nat -> List Tx
 | 0 => []
 | 1 => [shEnd s]
 | 2 => [shHead s]
 | 3 => [shHead s] ++ shEv
 | 4 => [shHead s] ++ [shEnd s] ++ [[88,58,121]]
 | 5 => [shHead s] ++ shEv ++ shEv ++ [shEnd s]
 | 6 => [shHead s] ++ [[86,69,82,83,73,79,78,58,51,46,48]] ++ [shEnd s]
 | 7 => [shHead s] ++ [[66,69,71,73,78,58,86,84,79,68,79]] ++ [shEnd s]
 | 8 => [shHead s] ++ [[69,78,68,58,86,69,86,69,78,84]] ++ [shEnd s]
 | _ => [shHead s] ++ [[86,69,82,83,73,79,78,58,50,46,48],[86,69,82,83,73,79,78,58,50,46,48]] ++ [shEnd s]
def badN : Nat -> Nat
 | 0 => 0
 | 1 => 0
 | 2 => 1
 | 3 => 7
 | 4 => 2
 | 5 => 12
 | 6 => 1
 | 7 => 1
 | 8 => 1
 | _ => 2
def goodL (s : Bool) : List Tx:=[shHead s] ++ [[88,45,78,65,77,69,58,122]] ++ shEv ++ [[86,69,82,83,73,79,78,58,50,46,48]] ++ [shEnd s]
theorem bad_all : ([true,false].all fun s => (List.range 10).all fun k => (badL s k).all fit1 && (decide ((badL s k).length <= 100) && (decide ((flatS (badL s k)).length <= 8000) && badOK (linF unU 100 (badL s k)) (badN k)))) = true:=by decide +kernel
theorem good_all : ([true,false].all fun s => (goodL s).all fit1 && (decide ((goodL s).length <= 100) && (decide ((flatS (goodL s)).length <= 8000) && oneOK (linF unU 100 (goodL s)) 10))) = true:=by decide +kernel
theorem bad_parse (s : Bool) (k : Nat) (hk : k < 10) : parseC unU (flatS (badL s k)) = ([],badN k,14) /\ (flatS (badL s k)).length <= 8000:=by
 have h:=List.all_eq_true.1 bad_all s (by cases s <;> simp)
 have h:=List.all_eq_true.1 h k (List.mem_range.2 hk)
 simp only [Bool.and_eq_true,decide_eq_true_eq] at h
 exact ⟨by rw [parse_short unU _ h.1 h.2.1 h.2.2.1]; exact badOK_is h.2.2.2,h.2.2.1⟩
theorem good_parse (s : Bool) : (∃ e,parseC unU (flatS (goodL s)) = ([e],10,0)) /\ (flatS (goodL s)).length <= 8000:=by
 have h:=List.all_eq_true.1 good_all s (by cases s <;> simp)
 simp only [Bool.and_eq_true,decide_eq_true_eq] at h
 exact ⟨by rw [parse_short unU _ h.1 h.2.1 h.2.2.1]; exact oneOK_is h.2.2.2,h.2.2.1⟩
theorem known_bad : parseC unU [66,69,71,73,78,58,86,67,65,76,69,78,68,65,82,13,10,120] = ([],1,14):=by
 have h : Lib.split [66,69,71,73,78,58,86,67,65,76,69,78,68,65,82,13,10,120] crlf = [[66,69,71,73,78,58,86,67,65,76,69,78,68,65,82],[120]]:=by decide +kernel
 have hu : unfoldE [66,69,71,73,78,58,86,67,65,76,69,78,68,65,82,13,10,120] = [[66,69,71,73,78,58,86,67,65,76,69,78,68,65,82],[120]]:=by
  unfold unfoldE
  rw [h]; rfl
 unfold parseC
 rw [if_neg (by decide),hu,if_neg (by decide),linF_is unU 100 _ (by decide)]
 exact badOK_is (by decide +kernel)
end Go.Proofs.YtfecnkhoojnkbaaGreatDoor.Ca

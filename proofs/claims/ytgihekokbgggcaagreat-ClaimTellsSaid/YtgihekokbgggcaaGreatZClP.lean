/- What the statements of layer 12 ask first: c, few, has, fewRule, fewEvent. -/
import Derived.Test.YtgihekokbgggcaaGreatZClO
set_option maxHeartbeats 8000000
set_option maxRecDepth 1000000
namespace Go.Proofs.YtgihekokbgggcaaGreat
open Go.RowKit Rul Rt Go.Sort
theorem box_cells (w : World) (t : TypeId) (x0 x1 x2 x3 x4 x5 x6 : Value) {X : Nat} (hX : w.heap.size = X) :
  let W:=w.alloc (.cells #[x0,x1,x2,x3,x4,x5,x6] t)
  W.cell? ⟨X,0,none⟩ = some x0 /\ W.cell? ⟨X,1,none⟩ = some x1 /\ W.cell? ⟨X,2,none⟩ = some x2 /\ W.cell? ⟨X,3,none⟩ = some x3 /\ W.cell? ⟨X,4,none⟩ = some x4 /\ W.cell? ⟨X,5,none⟩ = some x5 /\ W.cell? ⟨X,6,none⟩ = some x6:=by
 subst hX
 refine ⟨?_,?_,?_,?_,?_,?_,?_⟩
 all_goals (rw [World.cell?_alloc_at _ _ _ _ rfl]; rfl)
structure BlkAt (w : World) (b : Nat) (vs : List Value) : Prop where
 cell : ∀ i (h : i < vs.length),w.cell? ⟨b,i,none⟩ = some vs[i]
 free : ∀ i,w.frozen? ⟨b,i,none⟩ = false
 lt : b < w.heap.size
theorem blk_new (w : World) (vs : Array Value) (t : TypeId) : BlkAt (w.alloc (.cells vs t)) w.heap.size vs.toList :=
 ⟨fun i h => cell_new w vs t i _ (by rw [Array.length_toList] at h; rw [Array.getElem?_eq_getElem h]; simp),fun i => World.frozen?_alloc_at _ _ _ _ rfl,by simp⟩
theorem few12_any (fr ev ct un : Int) (D M Y : Option Addr) (dn dc mn mc yn yc : Nat) (w : World) :
  Calls Tryz.prog 48 #[.agg #[.int .i64 fr,.int .i64 ev,.int .i64 ct,.int .i64 un,.slice D dn dc,.slice M mn mc,.slice Y yn yc]] w (Ans w (.bool (decide (dn <= 20) && decide (mn <= 20) && decide (yn <= 20)))):=by
 have q:=box_cells w 39 (.int .i64 fr) (.int .i64 ev) (.int .i64 ct) (.int .i64 un) (.slice D dn dc) (.slice M mn mc) (.slice Y yn yc) rfl
 have HB:=hide (more (start w) (.cells #[.int .i64 fr,.int .i64 ev,.int .i64 ct,.int .i64 un,.slice D dn dc,.slice M mn mc,.slice Y yn yc] 39))
 obtain ⟨q0,q1,q2,q3,q4,q5,q6⟩:=q
 clear q0 q1 q2 q3
 by_cases h0 : dn <= 20
 ·by_cases h1 : mn <= 20
  ·by_cases h2 : yn <= 20
   ·rw [decide_eq_true h0,decide_eq_true h1,decide_eq_true h2]
    have i0 : (dn : Int) <= 20:=by omega
    have i1 : (mn : Int) <= 20:=by omega
    have i2 : (yn : Int) <= 20:=by omega
    go_enter Tryz.func48,Tryz.ntmps48
    go_wp2_with fail
    go_ret
    exact ⟨rfl,HB.out⟩
   ·rw [decide_eq_true h0,decide_eq_true h1,decide_eq_false h2]
    have i0 : (dn : Int) <= 20:=by omega
    have i1 : (mn : Int) <= 20:=by omega
    have i2 : ¬ (yn : Int) <= 20:=by omega
    go_enter Tryz.func48,Tryz.ntmps48
    go_wp2_with fail
    go_ret
    exact ⟨rfl,HB.out⟩
  ·rw [decide_eq_true h0,decide_eq_false h1]
   have i0 : (dn : Int) <= 20:=by omega
   have i1 : ¬ (mn : Int) <= 20:=by omega
   go_enter Tryz.func48,Tryz.ntmps48
   go_wp2_with fail
   go_ret
   exact ⟨rfl,HB.out⟩
 ·rw [decide_eq_false h0]
  have i0 : ¬ (dn : Int) <= 20:=by omega
  go_enter Tryz.func48,Tryz.ntmps48
  go_wp2_with fail
  go_ret
  exact ⟨rfl,HB.out⟩
def fewEB (dn mn yn us ts on xn : Nat) : Bool:=(decide (dn <= 20) && decide (mn <= 20) && decide (yn <= 20)) && decide (us <= 30) && decide (ts <= 60) && decide (on <= 10) && decide (xn <= 20)
theorem fewEB_iff (dn mn yn us ts on xn : Nat) : fewEB dn mn yn us ts on xn = true ↔ dn <= 20 /\ mn <= 20 /\ yn <= 20 /\ us <= 30 /\ ts <= 60 /\ on <= 10 /\ xn <= 20:=by simp [fewEB,and_assoc]
theorem fewE_any (U T : ByteArray) (s l : Int) (O : Option Addr) (on oc : Nat) (fr ev ct un : Int) (D M Y X : Option Addr) (dn dc mn mc yn yc xn xc : Nat) (w : World) :
  Calls Tryz.prog 25 #[.agg #[.string U,.string T,.int .i64 s,.int .i64 l,.slice O on oc,.int .i64 fr,.int .i64 ev,.int .i64 ct,.int .i64 un,.slice D dn dc,.slice M mn mc,.slice Y yn yc,.slice X xn xc]] w (Ans w (.bool (fewEB dn mn yn U.size T.size on xn))):=by
 have hk:=blk_new w #[.string U,.string T,.int .i64 s,.int .i64 l,.slice O on oc,.int .i64 fr,.int .i64 ev,.int .i64 ct,.int .i64 un,.slice D dn dc,.slice M mn mc,.slice Y yn yc,.slice X xn xc] 41
 have HB:=hide (more (start w) (.cells #[.string U,.string T,.int .i64 s,.int .i64 l,.slice O on oc,.int .i64 fr,.int .i64 ev,.int .i64 ct,.int .i64 un,.slice D dn dc,.slice M mn mc,.slice Y yn yc,.slice X xn xc] 41))
 have s0:=hk.cell 0 (by simp)
 have s1:=hk.cell 1 (by simp)
 have s4:=hk.cell 4 (by simp)
 have s5:=hk.cell 5 (by simp)
 have s6:=hk.cell 6 (by simp)
 have s7:=hk.cell 7 (by simp)
 have s8:=hk.cell 8 (by simp)
 have s9:=hk.cell 9 (by simp)
 have s10:=hk.cell 10 (by simp)
 have s11:=hk.cell 11 (by simp)
 have s12:=hk.cell 12 (by simp)
 simp only [List.getElem_cons_zero,List.getElem_cons_succ] at s0 s1 s4 s5 s6 s7 s8 s9 s10 s11 s12
 clear hk
 obtain ⟨b,hb⟩ : ∃ b,(decide (dn <= 20) && decide (mn <= 20) && decide (yn <= 20)) = b:=⟨_,rfl⟩
 have HFB:=hide hb
 cases b
 ·have HV:=hide (show fewEB dn mn yn U.size T.size on xn = false from by unfold fewEB; rw [hb]; rfl)
  clear hb
  go_enter Tryz.func25,Tryz.ntmps25
  go_wp2_with fail
  refine (ans_is (few12_any fr ev ct un D M Y dn dc mn mc yn yc _) HFB.out).mono ?_
  rintro e w1 ⟨rfl,hb1⟩
  replace HB:=hide (andthen HB.out hb1)
  replace s0:=cell_keep hb1 s0
  replace s1:=cell_keep hb1 s1
  replace s4:=cell_keep hb1 s4
  replace s12:=cell_keep hb1 s12
  clear s5 s6 s7 s8 s9 s10 s11 hb1
  go_wp2_with fail
  go_ret
  rw [HV.out]
  first | exact ⟨rfl,HB.out⟩ | exact ⟨ret_bool (decide_eq_true (by omega)),HB.out⟩ | exact ⟨ret_bool (decide_eq_false (by omega)),HB.out⟩
 ·by_cases g0 : U.size <= 30
  ·by_cases g1 : T.size <= 60
   ·by_cases g2 : on <= 10
    ·by_cases g3 : xn <= 20
     ·have i0 : (U.size : Int) <= 30:=by omega
      have i1 : (T.size : Int) <= 60:=by omega
      have i2 : (on : Int) <= 10:=by omega
      have i3 : (xn : Int) <= 20:=by omega
      have HV:=hide (show fewEB dn mn yn U.size T.size on xn = true from by unfold fewEB; rw [hb,decide_eq_true g0,decide_eq_true g1,decide_eq_true g2,decide_eq_true g3]; rfl)
      clear hb
      go_enter Tryz.func25,Tryz.ntmps25
      go_wp2_with fail
      refine (ans_is (few12_any fr ev ct un D M Y dn dc mn mc yn yc _) HFB.out).mono ?_
      rintro e w1 ⟨rfl,hb1⟩
      replace HB:=hide (andthen HB.out hb1)
      replace s0:=cell_keep hb1 s0
      replace s1:=cell_keep hb1 s1
      replace s4:=cell_keep hb1 s4
      replace s12:=cell_keep hb1 s12
      clear s5 s6 s7 s8 s9 s10 s11 hb1
      go_wp2_with fail
      go_ret
      rw [HV.out]
      first | exact ⟨rfl,HB.out⟩ | exact ⟨ret_bool (decide_eq_true (by omega)),HB.out⟩ | exact ⟨ret_bool (decide_eq_false (by omega)),HB.out⟩
     ·have i0 : (U.size : Int) <= 30:=by omega
      have i1 : (T.size : Int) <= 60:=by omega
      have i2 : (on : Int) <= 10:=by omega
      have i3 : ¬ (xn : Int) <= 20:=by omega
      have HV:=hide (show fewEB dn mn yn U.size T.size on xn = false from by unfold fewEB; rw [hb,decide_eq_true g0,decide_eq_true g1,decide_eq_true g2,decide_eq_false g3]; rfl)
      clear hb
      go_enter Tryz.func25,Tryz.ntmps25
      go_wp2_with fail
      refine (ans_is (few12_any fr ev ct un D M Y dn dc mn mc yn yc _) HFB.out).mono ?_
      rintro e w1 ⟨rfl,hb1⟩
      replace HB:=hide (andthen HB.out hb1)
      replace s0:=cell_keep hb1 s0
      replace s1:=cell_keep hb1 s1
      replace s4:=cell_keep hb1 s4
      replace s12:=cell_keep hb1 s12
      clear s5 s6 s7 s8 s9 s10 s11 hb1
      go_wp2_with fail
      go_ret
      rw [HV.out]
      first | exact ⟨rfl,HB.out⟩ | exact ⟨ret_bool (decide_eq_true (by omega)),HB.out⟩ | exact ⟨ret_bool (decide_eq_false (by omega)),HB.out⟩
    ·have i0 : (U.size : Int) <= 30:=by omega
     have i1 : (T.size : Int) <= 60:=by omega
     have i2 : ¬ (on : Int) <= 10:=by omega
     have HV:=hide (show fewEB dn mn yn U.size T.size on xn = false from by unfold fewEB; rw [hb,decide_eq_true g0,decide_eq_true g1,decide_eq_false g2]; rfl)
     clear hb
     go_enter Tryz.func25,Tryz.ntmps25
     go_wp2_with fail
     refine (ans_is (few12_any fr ev ct un D M Y dn dc mn mc yn yc _) HFB.out).mono ?_
     rintro e w1 ⟨rfl,hb1⟩
     replace HB:=hide (andthen HB.out hb1)
     replace s0:=cell_keep hb1 s0
     replace s1:=cell_keep hb1 s1
     replace s4:=cell_keep hb1 s4
     replace s12:=cell_keep hb1 s12
     clear s5 s6 s7 s8 s9 s10 s11 hb1
     go_wp2_with fail
     go_ret
     rw [HV.out]
     first | exact ⟨rfl,HB.out⟩ | exact ⟨ret_bool (decide_eq_true (by omega)),HB.out⟩ | exact ⟨ret_bool (decide_eq_false (by omega)),HB.out⟩
   ·have i0 : (U.size : Int) <= 30:=by omega
    have i1 : ¬ (T.size : Int) <= 60:=by omega
    have HV:=hide (show fewEB dn mn yn U.size T.size on xn = false from by unfold fewEB; rw [hb,decide_eq_true g0,decide_eq_false g1]; rfl)
    clear hb
    go_enter Tryz.func25,Tryz.ntmps25
    go_wp2_with fail
    refine (ans_is (few12_any fr ev ct un D M Y dn dc mn mc yn yc _) HFB.out).mono ?_
    rintro e w1 ⟨rfl,hb1⟩
    replace HB:=hide (andthen HB.out hb1)
    replace s0:=cell_keep hb1 s0
    replace s1:=cell_keep hb1 s1
    replace s4:=cell_keep hb1 s4
    replace s12:=cell_keep hb1 s12
    clear s5 s6 s7 s8 s9 s10 s11 hb1
    go_wp2_with fail
    go_ret
    rw [HV.out]
    first | exact ⟨rfl,HB.out⟩ | exact ⟨ret_bool (decide_eq_true (by omega)),HB.out⟩ | exact ⟨ret_bool (decide_eq_false (by omega)),HB.out⟩
  ·have i0 : ¬ (U.size : Int) <= 30:=by omega
   have HV:=hide (show fewEB dn mn yn U.size T.size on xn = false from by unfold fewEB; rw [hb,decide_eq_false g0]; rfl)
   clear hb
   go_enter Tryz.func25,Tryz.ntmps25
   go_wp2_with fail
   refine (ans_is (few12_any fr ev ct un D M Y dn dc mn mc yn yc _) HFB.out).mono ?_
   rintro e w1 ⟨rfl,hb1⟩
   replace HB:=hide (andthen HB.out hb1)
   replace s0:=cell_keep hb1 s0
   replace s1:=cell_keep hb1 s1
   replace s4:=cell_keep hb1 s4
   replace s12:=cell_keep hb1 s12
   clear s5 s6 s7 s8 s9 s10 s11 hb1
   go_wp2_with fail
   go_ret
   rw [HV.out]
   first | exact ⟨rfl,HB.out⟩ | exact ⟨ret_bool (decide_eq_true (by omega)),HB.out⟩ | exact ⟨ret_bool (decide_eq_false (by omega)),HB.out⟩
end Go.Proofs.YtgihekokbgggcaaGreat
namespace Go.Proofs.YtgihekokbgggcaaGreat.S2
open Go.RowKit Spn Cl
theorem c_any (r f t : Int) (w : World) :
  Calls Tryz.prog 32 #[.int .i64 r,.int .i64 f,.int .i64 t] w fun e w' => e = .returned (.agg #[.int .i64 r,.int .i64 f,.int .i64 t]) /\ Below w.heap.size w w':=by
 go_enter Tryz.func32,Tryz.ntmps32
 go_wp2_with fail
 (try simp only [Exit.inBlock,Exit.then])
 refine bodyPost_ret (v:=.agg #[.int .i64 r,.int .i64 f,.int .i64 t]) ?_ rfl ⟨rfl,?_⟩
 ·rw [results_cell1 rfl]
  go_simp
 ·exact more (start _) _
theorem few_any (A : Option Addr) (n c : Nat) (w : World) (hn : n <= maxLen) :
  Calls Tryz.prog 10 #[.slice A n c] w fun e w' => e = .returned (.bool (decide (n <= 30))) /\ w = w':=by
 unfold maxLen at hn
 by_cases h : n <= 30
 ·have d : decide ((n : Int) <= 30) = true:=decide_eq_true (by omega)
  have d2 : (n : Int) <= 30:=by omega
  have HE:=hide (decide_eq_true h)
  clear h
  go_enter Tryz.func10,Tryz.ntmps10
  go_wp2_with fail
  go_ret
  exact ⟨ret_bool HE.out.symm,rfl⟩
 ·have d : decide ((n : Int) <= 30) = false:=decide_eq_false (by omega)
  have d2 : ¬ (n : Int) <= 30:=by omega
  have HE:=hide (decide_eq_false h)
  clear h
  go_enter Tryz.func10,Tryz.ntmps10
  go_wp2_with fail
  go_ret
  exact ⟨ret_bool HE.out.symm,rfl⟩
theorem few_at (A : Option Addr) (n c : Nat) (b : Bool) (w : World) (hn : n <= maxLen) (h : decide (n <= 30) = b) :
  Calls Tryz.prog 10 #[.slice A n c] w fun e w' => e = .returned (.bool b) /\ w = w':=by subst h; exact few_any A n c w hn
def hasB (l : List C) (r m : Int) : Bool:=l.any fun c => decide (c.1 = r) && inB c.2 m
theorem hasB_iff (l : List C) (r m : Int) : hasB l r m = true ↔ HasC l r m:=by
 unfold hasB HasC
 rw [List.any_eq_true]
 constructor
 ·rintro ⟨c,hc,h⟩
  rw [Bool.and_eq_true,decide_eq_true_eq,in_ok] at h
  refine ⟨c.2,?_,h.2⟩
  rw [<- h.1]; exact hc
 ·rintro ⟨s,hs,h⟩
  refine ⟨(r,s),hs,?_⟩
  rw [Bool.and_eq_true,decide_eq_true_eq,in_ok]
  exact ⟨rfl,h⟩
theorem hasB_yes (l : List C) (r m : Int) (k : Nat) (h : k < l.length) (h1 : l[k].1 = r) (h2 : inB l[k].2 m = true) : hasB l r m = true:=by
 unfold hasB; rw [List.any_eq_true]
 exact ⟨l[k],List.getElem_mem _,by rw [h2,decide_eq_true h1]; rfl⟩
theorem hasB_no (l : List C) (r m : Int) (h : ∀ k (h : k < l.length),¬ (l[k].1 = r /\ inB l[k].2 m = true)) : hasB l r m = false:=by
 unfold hasB; rw [List.any_eq_false]
 intro c hc
 obtain ⟨k,hk,rfl⟩:=List.getElem_of_mem hc
 intro h2
 rw [Bool.and_eq_true,decide_eq_true_eq] at h2
 exact h k hk h2
theorem has_any (A : Option Addr) (n c : Nat) (l : List C) (r m : Int) (w : World) (h : RowC w A l) (he : n = l.length) (hn : l.length <= 1000000) :
  Calls Tryz.prog 28 #[.slice A n c,.int .i64 r,.int .i64 m] w fun e w' => e = .returned (.bool (hasB l r m)) /\ Below w.heap.size w w':=by
 subst he
 have HR:=hide h
 clear h
 go_enter Tryz.func28,Tryz.ntmps28
 go_wp2_with fail
 go_loopw [7] (fun i wr => ∃ k : Nat,k <= l.length /\ i = .int .i64 k /\ Hid (∀ j (h : j < l.length),j < k -> ¬ (l[j].1 = r /\ inB l[j].2 m = true)) /\ Hid (Below w.heap.size w wr)) (fun i _ => l.length - (intOf i).toNat)
 case atStart => exact ⟨0,by omega,rfl,hide (fun j _ h => absurd h (Nat.not_lt_zero _)),hide (start _)⟩
 case round =>
  obtain ⟨k,hk,rfl,HN,HB⟩:=hrel
  by_cases hlt : k < l.length
  ·obtain ⟨b,off,rfl,hb,hcl⟩:=HR.out (by intro h0; rw [h0] at hlt; exact absurd hlt (Nat.not_lt_zero _))
   obtain ⟨x1,x2,x3⟩:=hcl k hlt
   have HY:=hide (fun h1 h2 => hasB_yes l r m k hlt h1 h2)
   have HNX:=hide (fun (h : ¬ (l[k].1 = r /\ inB l[k].2 m = true)) (j : Nat) (h1 : j < l.length) (h2 : j < k + 1) => by
    rcases Nat.lt_or_ge j k with h3 | h3
    ·exact HN.out j h1 h3
    ·obtain rfl : j = k:=by omega
     exact h)
   obtain ⟨u,hu⟩ : ∃ u,l[k] = u:=⟨_,rfl⟩
   rw [hu] at x1 x2 x3 HY HNX
   obtain ⟨q,f,t⟩:=u
   have p1 : wr.cell? ⟨b,off + k * 3,none⟩ = some (.int .i64 q):=(HB.out.cell (p:=⟨b,_,none⟩) hb).trans x1
   have p2 : wr.cell? ⟨b,off + k * 3 + 1,none⟩ = some (.int .i64 f):=(HB.out.cell (p:=⟨b,_,none⟩) hb).trans x2
   have p3 : wr.cell? ⟨b,off + k * 3 + 2,none⟩ = some (.int .i64 t):=(HB.out.cell (p:=⟨b,_,none⟩) hb).trans x3
   have hi0 : (0 : Int) <= (k : Int):=by omega
   have hi1 : (k : Int) < (l.length : Int):=by omega
   clear hcl x1 x2 x3 hu
   by_cases hq : q = r
   ·have e1 : (q == r) = true:=by rw [beq_iff_eq]; exact hq
    cases hin : inB (f,t) m
    ·have HNN:=hide (HNX.out (by rintro ⟨_,h⟩; rw [hin] at h; cases h))
     have HIN:=hide hin
     clear hin HY HNX hq
     go_wp2_with fail
     refine (R.in_any f t m _).mono ?_
     rw [HIN.out]
     rintro e w1 ⟨rfl,hb1⟩
     have HB1:=hide (HB.out.trans (hb1.mono HB.out.size))
     clear hb1
     go_wp2_with fail
     go_roundw
     case rel => exact ⟨k + 1,by omega,by go_num,hide HNN.out,hide HB1.out⟩
     case measure => simp [intOf]; omega
    ·have HYY:=hide (HY.out hq hin)
     have HIN:=hide hin
     clear hin HY HNX hq
     go_wp2_with fail
     refine (R.in_any f t m _).mono ?_
     rw [HIN.out]
     rintro e w1 ⟨rfl,hb1⟩
     have HB1:=hide (HB.out.trans (hb1.mono HB.out.size))
     clear hb1
     go_wp2_with fail
     go_ret
     exact ⟨ret_bool HYY.out.symm,HB1.out⟩
   ·have e1 : (q == r) = false:=by rw [beq_eq_false_iff_ne]; exact hq
    have HNN:=hide (HNX.out (by rintro ⟨h,_⟩; exact hq h))
    clear HY HNX hq
    go_wp2_with fail
    go_roundw
    case rel => exact ⟨k + 1,by omega,by go_num,hide HNN.out,hide HB.out⟩
    case measure => simp [intOf]; omega
  ·have HF:=hide (hasB_no l r m (fun j hj => HN.out j hj (by omega)))
   go_wp2_with fail
   go_ret
   exact ⟨ret_bool HF.out.symm,HB.out⟩
theorem has_at (A : Option Addr) (n c : Nat) (l : List C) (r m : Int) (b : Bool) (w : World) (h : RowC w A l) (he : n = l.length) (hn : l.length <= 1000000) (hb : hasB l r m = b) :
  Calls Tryz.prog 28 #[.slice A n c,.int .i64 r,.int .i64 m] w fun e w' => e = .returned (.bool b) /\ Below w.heap.size w w':=by subst hb; exact has_any A n c l r m w h he hn
end Go.Proofs.YtgihekokbgggcaaGreat.S2

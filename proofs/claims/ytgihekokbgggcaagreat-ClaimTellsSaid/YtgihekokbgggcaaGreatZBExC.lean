/- Walks of package expand, the smaller calls: a number looked for in a list; the minutes at a time of day, those between two, those that aren't left out; the spans that begin there. -/
import Derived.Test.YtgihekokbgggcaaGreatZBExP
import Derived.Test.YtgihekokbgggcaaGreatZW5
import Derived.Test.YtgihekokbgggcaaGreatZS1
set_option maxHeartbeats 8000000
set_option maxRecDepth 1000000
namespace Go.Proofs.YtgihekokbgggcaaGreat
open Go.RowKit Rul Go.Sort
theorem outB_eq (l : List Int) (m : Int) : outB l m = l.any (fun x => m == x):=by
 unfold outB
 congr 1
 funext x
 by_cases h : x = m
 ·rw [h]
 ·rw [beq_eq_false_iff_ne.2 h,beq_eq_false_iff_ne.2 fun g => h g.symm]
theorem OwnI.row0 {w : World} {B : Nat} {v : Value} {l : List Int} (h : OwnI w B v l) : ∃ A cap,v = .slice A l.length cap /\ RowI w A l /\ (A = none -> cap = 0) /\ l.length <= cap:=by
 obtain ⟨A,cap,rfl,hr⟩:=h.row
 refine ⟨A,cap,rfl,hr,?_⟩
 rcases h.2 with ⟨g,hn⟩ | ⟨g,cap2,cur,e,_,_,hc,_⟩
 ·injection g with g1 g2 g3
  exact ⟨fun _ => g3,by omega⟩
 ·injection e with e1 e2 e3
  subst e1 e3
  exact ⟨fun h0 => (by cases h0),hc⟩
theorem OwnI.cut {w : World} {B : Nat} {A : Option Addr} {n cap m : Nat} {l : List Int} (h : OwnI w B (.slice A n cap) l) (hm : m <= l.length) : OwnI w B (.slice A m cap) (l.take m):=by
 have hlm : (l.take m).length = m:=by rw [List.length_take]; omega
 refine ⟨by rw [cellsI_len,Nat.mul_one],?_⟩
 rw [hlm]
 rcases h.2 with ⟨g,hn⟩ | ⟨g,cap2,cur,e,hb,hg,hc,hx,hs,ht⟩
 ·injection g with g1 g2 g3
  subst g1 g3
  obtain rfl : m = 0:=by omega
  exact Or.inl ⟨rfl,rfl⟩
 ·injection e with e1 e2 e3
  subst e1 e3
  refine Or.inr ⟨g,cap,cur,rfl,hb,hg,by omega,hx,hs,?_⟩
  rw [Nat.mul_one] at ht ⊢
  have : cellsI (l.take m) = (cellsI l).take m:=by unfold cellsI; rw [List.map_take]
  rw [this,<- ht,List.take_take,Nat.min_eq_left hm]
theorem own_one (w : World) (B : Nat) (s : Int) (hB : B <= w.heap.size) : OwnI (w.alloc (.cells #[.int .i64 s] 3)) B (.slice (some ⟨w.heap.size,0,none⟩) 1 1) [s] :=
 World.ownsRow_lit (size:=1) w #[.int .i64 s] 1 hB (by unfold maxLen; omega) rfl
theorem ixI_any (m : Int) (A : Option Addr) (n c : Nat) (l : List Int) (w : World) (hl : RowI w A l) (hn : n = l.length) (hsz : l.length <= 1000) :
  Calls Tryz.prog 139 #[.slice A n c,.int .i64 m] w (Finds w (l.any (fun x => m == x))):=by
 subst hn
 by_cases hnil : l = []
 ·subst hnil
  go_enter Tryz.func139,Tryz.ntmps139
  go_wp2_with fail
  refine wp_loop_rounds 1 ?_
  rw [rounds_succ]
  go_wp2_with fail
  go_ret
  exact ⟨-1,rfl,rfl,start _⟩
 ·obtain ⟨b1,o1,rfl,hb1,hc1⟩:=hl hnil
  have HC1:=hide hc1
  clear hl hc1 hnil
  go_enter Tryz.func139,Tryz.ntmps139
  go_wp2_with fail
  go_loopw [8] (fun i wr => ∃ j : Nat,j <= l.length /\ i = .int .i64 j /\ (∀ i (hi : i < l.length),i < j -> (fun x => m == x) l[i] = false) /\ Below w.heap.size w wr) (fun i _ => l.length - (intOf i).toNat)
  case atStart => exact ⟨0,Nat.zero_le _,rfl,fun i hi h => absurd h (Nat.not_lt_zero _),start _⟩
  case round =>
   obtain ⟨j,hj,rfl,heq,hbw⟩:=hrel
   have HE:=hide heq
   clear heq
   by_cases hlt : j < l.length
   ·obtain ⟨x,hx⟩ : ∃ x,l[j] = x:=⟨_,rfl⟩
    have p1 : wr.cell? ⟨b1,o1 + j,none⟩ = some (.int .i64 x):=by rw [<- hx]; exact (hbw.cell (p:=⟨b1,_,none⟩) hb1).trans (HC1.out j hlt)
    have hi0 : (0 : Int) <= (j : Int):=by omega
    have hi1 : (j : Int) < (l.length : Int):=by omega
    cases hq : (m == x)
    ·have HN:=hide (none_step (fun x => m == x) l j hlt HE.out (by show (m == l[j]) = false; rw [hx]; exact hq))
     clear hx
     go_wp2_with fail
     go_roundw
     case rel => exact ⟨j + 1,by omega,by go_num,HN.out,hbw⟩
     case measure => simp [intOf]; omega
    ·have HN:=hide (any_at (fun x => m == x) l j hlt (by show (m == l[j]) = true; rw [hx]; exact hq))
     clear hx
     go_wp2_with fail
     go_ret
     exact ⟨_,rfl,by rw [HN.out]; exact decide_eq_true hi0,hbw⟩
   ·obtain rfl : j = l.length:=by omega
    have HF:=hide (any_end (fun x => m == x) l l.length rfl HE.out)
    go_wp2_with fail
    go_ret
    exact ⟨-1,rfl,by rw [HF.out]; rfl,hbw⟩
theorem contains_any (m : Int) (A : Option Addr) (n c : Nat) (l : List Int) (w : World) (hl : RowI w A l) (hn : n = l.length) (hsz : l.length <= 1000) :
  Calls Tryz.prog 116 #[.slice A n c,.int .i64 m] w (Ans w (.bool (outB l m))):=by
 subst hn
 have HL:=hide hl
 clear hl
 go_enter Tryz.func116,Tryz.ntmps116
 go_wp2_with fail
 refine (ixI_any m A _ c l _ HL.out rfl hsz).mono ?_
 rintro e w1 ⟨v,rfl,hv,hb⟩
 have HV:=hide hv
 clear hv
 go_wp2_with fail
 go_ret
 exact ⟨ret_bool (by rw [outB_eq,<- HV.out]),hb⟩
theorem without_any (X : Option Addr) (xn xc : Nat) (ex : List Int) (A : Option Addr) (n c : Nat) (l : List Int) (w : World) (hx : RowI w X ex) (hxn : xn = ex.length) (hxl : ex.length <= 1000) (hl : RowI w A l) (hn : n = l.length) (hsz : l.length <= 1000) :
  Calls Tryz.prog 86 #[.slice X xn xc,.slice A n c] w (GivesI w (l.filter fun m => !outB ex m)):=by
 subst hn
 have HX:=hide hx
 have HR:=hide hl
 have HXN:=hide hxn
 clear hx hl hxn
 go_enter Tryz.func86,Tryz.ntmps86
 go_wp2_with fail
 go_loopw [5,7,10] (fun v _ i wr => ∃ j : Nat,j <= l.length /\ i = .int .i64 j /\ OwnI wr w.heap.size v ((l.take j).filter (fun m => !outB ex m)) /\ Below w.heap.size w wr) (fun _ _ i _ => l.length - (intOf i).toNat)
 case atStart => exact ⟨0,Nat.zero_le _,rfl,ownI_nil _ _,start _⟩
 case round =>
  obtain ⟨j,hj,rfl,hown,hbw⟩:=hrel
  have HO:=hide hown
  have HBR:=hide hbw
  clear hown hbw
  by_cases hlt : j < l.length
  ·obtain ⟨b1,o1,rfl,hb1,hc1⟩:=HR.out (by intro h0; rw [h0] at hlt; exact absurd hlt (Nat.not_lt_zero _))
   obtain ⟨m,hm⟩ : ∃ m,l[j] = m:=⟨_,rfl⟩
   have p1 : wr.cell? ⟨b1,o1 + j,none⟩ = some (.int .i64 m):=by rw [<- hm]; exact (HBR.out.cell (p:=⟨b1,_,none⟩) hb1).trans (hc1 j hlt)
   have hi0 : (0 : Int) <= (j : Int):=by omega
   have hi1 : (j : Int) < (l.length : Int):=by omega
   have HX2:=hide (HX.out.keep HBR.out)
   clear hc1
   cases ho : outB ex m
   ·have HN:=hide (filt_yes (fun m => !outB ex m) l j hlt (by simp only [hm]; rw [ho]; rfl))
    rw [hm] at HN
    have HOU:=hide ho
    clear ho hm
    go_wp2_with fail
    refine (ans_is (contains_any m X xn xc ex _ HX2.out HXN.out hxl) HOU.out).mono ?_
    rintro e v1 ⟨rfl,hb⟩
    replace HO:=hide (HO.out.keep hb)
    replace HBR:=hide (andthen HBR.out hb)
    clear hb p1
    have hz:=HBR.out.size
    have hown:=HO.out
    have hln : ((l.take j).filter (fun m => !outB ex m)).length <= 1000000:=Nat.le_trans (List.length_filter_le _ _) (Nat.le_trans (List.length_take_le _ _) (by omega))
    go_wp2_with (at_builtin; refine wp_oneI (l:=(l.take j).filter (fun m => !outB ex m)) (p:=m) rfl _ _ rfl rfl rfl rfl hown hz hln ?_; intro v3 w3 hown3 hb3)
    have HO3:=hide hown3
    have HB3:=hide (HBR.out.trans hb3)
    clear hown hown3 hb3 hz hln
    go_wp2_with fail
    go_roundw
    case rel => exact ⟨j + 1,by omega,by go_num,by rw [HN.out]; exact HO3.out,HB3.out⟩
    case measure => simp [intOf]; omega
   ·have HN:=hide (filt_no (fun m => !outB ex m) l j hlt (by simp only [hm]; rw [ho]; rfl))
    have HOU:=hide ho
    clear ho hm
    go_wp2_with fail
    refine (ans_is (contains_any m X xn xc ex _ HX2.out HXN.out hxl) HOU.out).mono ?_
    rintro e v1 ⟨rfl,hb⟩
    replace HO:=hide (HO.out.keep hb)
    replace HBR:=hide (andthen HBR.out hb)
    clear hb p1
    go_wp2_with fail
    go_roundw
    case rel => exact ⟨j + 1,by omega,by go_num,by rw [HN.out]; exact HO.out,HBR.out⟩
    case measure => simp [intOf]; omega
  ·obtain rfl : j = l.length:=by omega
   rw [List.take_length] at HO
   go_wp2_with fail
   go_ret
   exact ⟨_,rfl,HO.out,HBR.out⟩
theorem between_any (a b : Int) (A : Option Addr) (n c : Nat) (l : List Int) (w : World) (hl : RowI w A l) (hn : n = l.length) (hsz : l.length <= 1000) :
  Calls Tryz.prog 115 #[.int .i64 a,.int .i64 b,.slice A n c] w (GivesI w (l.filter fun m => decide (a <= m) && decide (m <= b))):=by
 subst hn
 have HR:=hide hl
 clear hl
 go_enter Tryz.func115,Tryz.ntmps115
 go_wp2_with fail
 go_loopw [7,9,12] (fun v _ i wr => ∃ j : Nat,j <= l.length /\ i = .int .i64 j /\ OwnI wr w.heap.size v ((l.take j).filter (fun m => decide (a <= m) && decide (m <= b))) /\ Below w.heap.size w wr) (fun _ _ i _ => l.length - (intOf i).toNat)
 case atStart => exact ⟨0,Nat.zero_le _,rfl,ownI_nil _ _,start _⟩
 case round =>
  obtain ⟨j,hj,rfl,hown,hbw⟩:=hrel
  have HO:=hide hown
  have HBR:=hide hbw
  clear hown hbw
  by_cases hlt : j < l.length
  ·obtain ⟨b1,o1,rfl,hb1,hc1⟩:=HR.out (by intro h0; rw [h0] at hlt; exact absurd hlt (Nat.not_lt_zero _))
   obtain ⟨m,hm⟩ : ∃ m,l[j] = m:=⟨_,rfl⟩
   have p1 : wr.cell? ⟨b1,o1 + j,none⟩ = some (.int .i64 m):=by rw [<- hm]; exact (HBR.out.cell (p:=⟨b1,_,none⟩) hb1).trans (hc1 j hlt)
   have hi0 : (0 : Int) <= (j : Int):=by omega
   have hi1 : (j : Int) < (l.length : Int):=by omega
   clear hc1
   by_cases ha : a <= m
   ·by_cases hb : m <= b
    ·have HN:=hide (filt_yes (fun m => decide (a <= m) && decide (m <= b)) l j hlt (by simp only [hm]; rw [decide_eq_true ha,decide_eq_true hb]; rfl))
     rw [hm] at HN
     clear hm
     have hz:=HBR.out.size
     have hown:=HO.out
     have hln : ((l.take j).filter (fun m => decide (a <= m) && decide (m <= b))).length <= 1000000:=Nat.le_trans (List.length_filter_le _ _) (Nat.le_trans (List.length_take_le _ _) (by omega))
     go_wp2_with (at_builtin; refine wp_oneI (l:=(l.take j).filter (fun m => decide (a <= m) && decide (m <= b))) (p:=m) rfl _ _ rfl rfl rfl rfl hown hz hln ?_; intro v3 w3 hown3 hb3)
     have HO3:=hide hown3
     have HB3:=hide (HBR.out.trans hb3)
     clear hown hown3 hb3 hz hln
     go_wp2_with fail
     go_roundw
     case rel => exact ⟨j + 1,by omega,by go_num,by rw [HN.out]; exact HO3.out,HB3.out⟩
     case measure => simp [intOf]; omega
    ·have HN:=hide (filt_no (fun m => decide (a <= m) && decide (m <= b)) l j hlt (by simp only [hm]; rw [decide_eq_false hb,Bool.and_false]))
     clear hm
     go_wp2_with fail
     go_roundw
     case rel => exact ⟨j + 1,by omega,by go_num,by rw [HN.out]; exact HO.out,HBR.out⟩
     case measure => simp [intOf]; omega
   ·have HN:=hide (filt_no (fun m => decide (a <= m) && decide (m <= b)) l j hlt (by simp only [hm]; rw [decide_eq_false ha,Bool.false_and]))
    clear hm
    go_wp2_with fail
    go_roundw
    case rel => exact ⟨j + 1,by omega,by go_num,by rw [HN.out]; exact HO.out,HBR.out⟩
    case measure => simp [intOf]; omega
  ·obtain rfl : j = l.length:=by omega
   rw [List.take_length] at HO
   go_wp2_with fail
   go_ret
   exact ⟨_,rfl,HO.out,HBR.out⟩
theorem minutesAt_any (t : Int) (A : Option Addr) (n c : Nat) (l : List Int) (w : World) (hl : RowI w A l) (hn : n = l.length) (hsz : l.length <= 1000) (ht0 : 0 <= t) (ht1 : t < 1440) (hd : ∀ x ∈ l,0 <= x /\ x < 36525) :
  Calls Tryz.prog 113 #[.int .i64 t,.slice A n c] w (GivesI w (l.map fun d => d * 1440 + t)):=by
 subst hn
 have HR:=hide hl
 have HD:=hide hd
 clear hl hd
 go_enter Tryz.func113,Tryz.ntmps113
 go_wp2_with (refine wp_makeI rfl _ _ rfl rfl (n:=l.length) rfl rfl (by omega) ?_; intro v0 w0 hown0 hb0)
 have HO0:=hide hown0
 have HB0:=hide hb0
 clear hown0 hb0
 go_wp2_with fail
 go_loopw [5,7,13] (fun v _ i wr => ∃ j : Nat,j <= l.length /\ i = .int .i64 j /\ OwnI wr w.heap.size v ((l.take j).map (fun d => d * 1440 + t)) /\ Below w.heap.size w wr) (fun _ _ i _ => l.length - (intOf i).toNat)
 case atStart => exact ⟨0,Nat.zero_le _,rfl,HO0.out,HB0.out⟩
 case round =>
  obtain ⟨j,hj,rfl,hown,hbw⟩:=hrel
  have HO:=hide hown
  have HBR:=hide hbw
  clear hown hbw
  by_cases hlt : j < l.length
  ·obtain ⟨b1,o1,rfl,hb1,hc1⟩:=HR.out (by intro h0; rw [h0] at hlt; exact absurd hlt (Nat.not_lt_zero _))
   obtain ⟨m,hm⟩ : ∃ m,l[j] = m:=⟨_,rfl⟩
   have hmr:=HD.out l[j] (List.getElem_mem _)
   rw [hm] at hmr
   have p1 : wr.cell? ⟨b1,o1 + j,none⟩ = some (.int .i64 m):=by rw [<- hm]; exact (HBR.out.cell (p:=⟨b1,_,none⟩) hb1).trans (hc1 j hlt)
   have hi0 : (0 : Int) <= (j : Int):=by omega
   have hi1 : (j : Int) < (l.length : Int):=by omega
   have HTK : Hid (l.take (j + 1) = l.take j ++ [m]):=hide (by rw [List.take_succ_eq_append_getElem hlt,hm])
   clear hc1 hm
   obtain ⟨m0,m1⟩:=hmr
   have hz:=HBR.out.size
   have hown:=HO.out
   have hln : ((l.take j).map (fun d => d * 1440 + t)).length <= 1000000:=by rw [List.length_map]; exact Nat.le_trans (List.length_take_le _ _) (by omega)
   go_wp2_with (at_builtin; refine wp_oneI (l:=(l.take j).map (fun d => d * 1440 + t)) (p:=m * 1440 + t) rfl _ _ rfl rfl rfl rfl hown hz hln ?_; intro v3 w3 hown3 hb3)
   have HO3:=hide hown3
   have HB3:=hide (HBR.out.trans hb3)
   clear hown hown3 hb3 hz hln
   go_wp2_with fail
   go_roundw
   case rel => exact ⟨j + 1,by omega,by go_num,by rw [HTK.out,List.map_append]; exact HO3.out,HB3.out⟩
   case measure => simp [intOf]; omega
  ·obtain rfl : j = l.length:=by omega
   rw [List.take_length] at HO
   go_wp2_with fail
   go_ret
   exact ⟨_,rfl,HO.out,HBR.out⟩
theorem S2.wp_makeS {ops : Array Oper} {rest : List Oper} {o : Oper} {a : Act} {Q : Exit -> Act -> World -> Prop} {w : World} (hgd : o.guard = none) (l c : Operand)
  (ho : o.op = .makeSlice 52 l c) (hl : a.eval l = .int .i64 0) {C : Int} {n : Nat} (hc : a.eval c = .int .i64 C) (hC : C = (n : Int)) (hn : n <= 1000000)
  (h : ∀ v w',S2.Own w' w.heap.size v [] -> Below w.heap.size w w' -> wpList Tryz.prog ops Q rest (a.put o.dst v) w') :
  wpList Tryz.prog ops Q (o :: rest) a w:=by
 obtain ⟨i0,hi,hz0,hz1,hz2⟩:=info_parts S2.span_info
 refine wpList_make_own w hgd l c 52 ho w.heap.size 23 i0 _ 2 Tryz.underlying52 hi hz0 hz1 .i64 .i64 C n hl hc hC (by rw [hz2]; omega) (by unfold maxLen; omega) (Nat.le_refl _) ?_
 intro w' h2 h3
 exact h _ w' h2 ((Below.refl w.heap.size w).grown h3 (Nat.le_refl _) fun j hj => by cases hj)
theorem spansFrom_any (long : Int) (A : Option Addr) (n c : Nat) (l : List Int) (x : List (Int × Int) × Int) (w : World) (hl : RowI w A l) (hn : n = l.length) (hsz : l.length <= 1000) (hg1 : 1 <= long) (hg2 : long <= 10080) (hm : ∀ m ∈ l,0 <= m /\ m < 52596000)
  (hx1 : (∃ m ∈ l,52596000 < m + long) -> x = ([],10)) (hx2 : (∀ m ∈ l,m + long <= 52596000) -> x = (l.map fun m => (m,m + long),0)) :
  Calls Tryz.prog 69 #[.int .i64 long,.slice A n c] w (R.GivesP w x):=by
 subst hn
 have HR:=hide hl
 have HM:=hide hm
 have HX1:=hide hx1
 have HX2:=hide hx2
 clear hl hm hx1 hx2
 go_enter Tryz.func69,Tryz.ntmps69
 go_wp2_with (refine S2.wp_makeS rfl _ _ rfl rfl (n:=l.length) rfl rfl (by omega) ?_; intro v0 w0 hown0 hb0)
 have HO0:=hide hown0
 have HB0:=hide hb0
 clear hown0 hb0
 go_wp2_with fail
 go_loopw [6,8,9,15] (fun v _ _ i wr => ∃ j : Nat,j <= l.length /\ i = .int .i64 j /\ S2.Own wr w.heap.size v ((l.take j).map (fun m => (m,m + long))) /\ Hid (∀ q ∈ l.take j,q + long <= 52596000) /\ Below w.heap.size w wr) (fun _ _ _ i _ => l.length - (intOf i).toNat)
 case atStart => exact ⟨0,Nat.zero_le _,rfl,HO0.out,hide (fun q hq => by simp at hq),HB0.out⟩
 case round =>
  obtain ⟨j,hj,rfl,hown,HQ,hbw⟩:=hrel
  have HO:=hide hown
  have HBR:=hide hbw
  clear hown hbw
  by_cases hlt : j < l.length
  ·obtain ⟨b1,o1,rfl,hb1,hc1⟩:=HR.out (by intro h0; rw [h0] at hlt; exact absurd hlt (Nat.not_lt_zero _))
   obtain ⟨m,hm⟩ : ∃ m,l[j] = m:=⟨_,rfl⟩
   have hmr:=HM.out l[j] (List.getElem_mem _)
   rw [hm] at hmr
   have HTK : Hid (l.take (j + 1) = l.take j ++ [m]):=hide (by rw [List.take_succ_eq_append_getElem hlt,hm])
   have hml : m ∈ l:=by rw [<- hm]; exact List.getElem_mem _
   have HML:=hide hml
   have p1 : wr.cell? ⟨b1,o1 + j,none⟩ = some (.int .i64 m):=by rw [<- hm]; exact (HBR.out.cell (p:=⟨b1,_,none⟩) hb1).trans (hc1 j hlt)
   have hi0 : (0 : Int) <= (j : Int):=by omega
   have hi1 : (j : Int) < (l.length : Int):=by omega
   clear hc1 hm hml
   obtain ⟨m0,m1⟩:=hmr
   have hbV:=more (start wr) (.cells #[.int .i64 m,.int .i64 (m + long)] 23)
   have x0 : (wr.alloc (.cells #[.int .i64 m,.int .i64 (m + long)] 23)).cell? ⟨wr.heap.size,0,none⟩ = some (.int .i64 m):=by rw [World.cell?_alloc_at _ _ _ _ rfl]; rfl
   have x1 : (wr.alloc (.cells #[.int .i64 m,.int .i64 (m + long)] 23)).cell? ⟨wr.heap.size,1,none⟩ = some (.int .i64 (m + long)):=by rw [World.cell?_alloc_at _ _ _ _ rfl]; rfl
   replace HBR:=hide (andthen HBR.out hbV)
   replace HO:=hide (HO.out.keep hbV)
   clear hbV
   by_cases hk : m + long <= 52596000
   ·have HK : Hid (Spn.okB (m,m + long) = true):=hide (S2.okB_yes _ _ (by omega) (by omega) hk)
    go_wp2_with fail
    generalize (wr.alloc (.cells #[.int .i64 m,.int .i64 (m + long)] 23)) = V at *
    generalize wr.heap.size = XS at *
    refine (S2.is_at m (m + long) true _ HK.out).mono ?_
    rintro e v1 ⟨rfl,hb⟩
    replace HBR:=hide (andthen HBR.out hb)
    replace HO:=hide (HO.out.keep hb)
    replace x0:=cell_keep hb x0
    replace x1:=cell_keep hb x1
    clear hb
    have hz:=HBR.out.size
    have hown:=HO.out
    have hln : ((l.take j).map (fun m => (m,m + long))).length <= 1000000:=by rw [List.length_map]; exact Nat.le_trans (List.length_take_le _ _) (by omega)
    go_wp2_with (at_builtin; refine S2.wp_one (l:=(l.take j).map (fun m => (m,m + long))) (p:=(m,m + long)) rfl _ _ rfl rfl rfl rfl hown hz hln ?_; intro v3 w3 hown3 hb3)
    have HO3:=hide hown3
    have HB3:=hide (HBR.out.trans hb3)
    clear hown hown3 hb3 hz hln
    go_wp2_with fail
    go_roundw
    case rel => exact ⟨j + 1,by omega,by go_num,by rw [HTK.out,List.map_append]; exact HO3.out,hide (by rw [HTK.out]; intro q hq; rcases List.mem_append.1 hq with g | g; exact HQ.out q g; rw [List.mem_singleton] at g; subst g; exact hk),HB3.out⟩
    case measure => simp [intOf]; omega
   ·have HK : Hid (Spn.okB (m,m + long) = false):=hide (S2.okB_no _ _ fun h => hk h.2.2)
    have HE:=hide (HX1.out ⟨m,HML.out,by omega⟩)
    go_wp2_with fail
    generalize (wr.alloc (.cells #[.int .i64 m,.int .i64 (m + long)] 23)) = V at *
    generalize wr.heap.size = XS at *
    refine (S2.is_at m (m + long) false _ HK.out).mono ?_
    rintro e v1 ⟨rfl,hb⟩
    replace HBR:=hide (andthen HBR.out hb)
    clear hb
    go_wp2_with fail
    go_ret2
    exact R.gives_p HE.out rfl (S2.Own.none _ _) HBR.out
  ·obtain rfl : j = l.length:=by omega
   rw [List.take_length] at HO HQ
   have HE:=hide (HX2.out HQ.out)
   go_wp2_with fail
   go_ret2
   exact R.gives_p HE.out rfl HO.out HBR.out
end Go.Proofs.YtgihekokbgggcaaGreat

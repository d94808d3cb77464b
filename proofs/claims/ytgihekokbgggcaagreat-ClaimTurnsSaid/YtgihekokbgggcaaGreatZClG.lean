/- Package claim: common. -/
import Derived.RegionTactic
import Derived.Test.YtgihekokbgggcaaGreatZClD
import Derived.Test.YtgihekokbgggcaaGreatZS6
set_option maxHeartbeats 8000000
set_option maxRecDepth 1000000
namespace Go.Proofs.YtgihekokbgggcaaGreat.S2
open Go.RowKit Spn Cl
theorem Row.tail {w : World} {b off : Nat} {x : Sp} {l : List Sp} (h : Row w (some ⟨b,off,none⟩) (x :: l)) (c : Nat) (hc : l.length + 1 <= c) : Row w (if c = 1 then some ⟨b,off,none⟩ else some ⟨b,off + 2,none⟩) l:=fun hn => by
 obtain ⟨b',off',e,hl,hcl⟩:=h (by simp)
 injection e with e
 injection e with e1 e2 _
 subst e1 e2
 rw [if_neg (by intro h1; rw [h1] at hc; exact hn (List.eq_nil_of_length_eq_zero (by omega)))]
 refine ⟨b,off + 2,rfl,hl,fun i hi => ?_⟩
 have:=hcl (i + 1) (by simpa using hi)
 rw [show off + 2 + i * 2 = off + (i + 1) * 2 by omega]
 simpa using this
theorem com_lt (x y : Sp) (a b : List Sp) (q : Sp) (hq : meet x y = q) (hok : okB q = true) (h : x.2 < y.2) (out : List Sp) : out ++ com (x :: a) (y :: b) = (out ++ [q]) ++ com a (y :: b):=by
 rw [com_cons,hq,if_pos ((okB_iff _).1 hok),if_pos h,List.append_assoc]
theorem com_lt' (x y : Sp) (a b : List Sp) (q : Sp) (hq : meet x y = q) (hok : okB q = false) (h : x.2 < y.2) (out : List Sp) : out ++ com (x :: a) (y :: b) = out ++ com a (y :: b):=by
 rw [com_cons,hq,if_neg ((okB_not _).1 hok),if_pos h,List.nil_append]
theorem com_ge (x y : Sp) (a b : List Sp) (q : Sp) (hq : meet x y = q) (hok : okB q = true) (h : ¬ x.2 < y.2) (out : List Sp) : out ++ com (x :: a) (y :: b) = (out ++ [q]) ++ com (x :: a) b:=by
 rw [com_cons,hq,if_pos ((okB_iff _).1 hok),if_neg h,List.append_assoc]
theorem com_ge' (x y : Sp) (a b : List Sp) (q : Sp) (hq : meet x y = q) (hok : okB q = false) (h : ¬ x.2 < y.2) (out : List Sp) : out ++ com (x :: a) (y :: b) = out ++ com (x :: a) b:=by
 rw [com_cons,hq,if_neg ((okB_not _).1 hok),if_neg h,List.nil_append]
set_option linter.unusedSimpArgs false in
set_option linter.unusedVariables false in
theorem common_any (A B : Option Addr) (n m c d : Nat) (la lb : List Sp) (w : World) (ha : Row w A la) (hb : Row w B lb) (hn : n = la.length) (hm : m = lb.length) (hc : la.length <= c) (hd : lb.length <= d) (hla : la.length <= 400000) (hlb : lb.length <= 400000) :
  Calls Tryz.prog 60 #[.slice A n c,.slice B m d] w (Gives w (com la lb)):=by
 subst hn hm
 have HA:=hide ha
 have HB:=hide hb
 clear ha hb
 go_enter Tryz.func60,Tryz.ntmps60
 go_wp2_with fail
 go_loopg [0,1,5] (la.length + lb.length) (fun g x y v wr => ∃ (p q : List Sp) (A B : Option Addr) (c d : Nat) (out : List Sp),x = .slice A p.length c /\ y = .slice B q.length d /\ p.length + q.length = g /\ Hid (p.length <= c) /\ Hid (q.length <= d) /\ Hid (Row w A p) /\ Hid (Row w B q) /\ Hid (Own wr w.heap.size v out) /\ Hid (out ++ com p q = com la lb) /\ Hid (out.length + p.length + q.length <= la.length + lb.length) /\ Hid (Below w.heap.size w wr))
 case atStart => exact ⟨la,lb,A,B,c,d,[],rfl,rfl,rfl,hide hc,hide hd,hide HA.out,hide HB.out,hide (own_nil _ _),hide rfl,hide (by simp),hide (start _)⟩
 case round =>
  obtain ⟨p,q,A,B,c,d,out,rfl,rfl,rfl,HC,HD,HP,HQ,HO,HE,HL,HBR⟩:=hrel
  rcases p with _ | ⟨x,p⟩
  ·have HZ : Hid (out = com la lb):=hide (by have:=HE.out; simpa [com] using this)
   go_wp2_with fail
   go_ret
   exact ⟨_,rfl,HZ.out ▸ HO.out,HBR.out⟩
  ·rcases q with _ | ⟨y,q⟩
   ·have HZ : Hid (out = com la lb):=hide (by have:=HE.out; rw [com_nil,List.append_nil] at this; exact this)
    have hp0 : (0 : Int) < (((x :: p).length : Nat) : Int):=by simp
    have hp1 : decide ((0 : Int) < (((x :: p).length : Nat) : Int)) = true:=decide_eq_true hp0
    go_wp2_with fail
    go_ret
    exact ⟨_,rfl,HZ.out ▸ HO.out,HBR.out⟩
   ·obtain ⟨b1,o1,rfl,hb1,hc1⟩:=HP.out (by simp)
    obtain ⟨b2,o2,rfl,hb2,hc2⟩:=HQ.out (by simp)
    obtain ⟨x0,x1⟩:=x
    obtain ⟨y0,y1⟩:=y
    have d0 : wr.cell? ⟨b1,o1,none⟩ = some (.int .i64 x0):=(HBR.out.cell (p:=⟨b1,_,none⟩) hb1).trans (by have h:=(hc1 0 (by simp)).1; rw [Nat.zero_mul,Nat.add_zero] at h; exact h)
    have d1 : wr.cell? ⟨b1,o1 + 1,none⟩ = some (.int .i64 x1):=(HBR.out.cell (p:=⟨b1,_,none⟩) hb1).trans (by have h:=(hc1 0 (by simp)).2; rw [Nat.zero_mul,Nat.add_zero] at h; exact h)
    have d2 : wr.cell? ⟨b2,o2,none⟩ = some (.int .i64 y0):=(HBR.out.cell (p:=⟨b2,_,none⟩) hb2).trans (by have h:=(hc2 0 (by simp)).1; rw [Nat.zero_mul,Nat.add_zero] at h; exact h)
    have d3 : wr.cell? ⟨b2,o2 + 1,none⟩ = some (.int .i64 y1):=(HBR.out.cell (p:=⟨b2,_,none⟩) hb2).trans (by have h:=(hc2 0 (by simp)).2; rw [Nat.zero_mul,Nat.add_zero] at h; exact h)
    have hp0 : (0 : Int) < ((p.length + 1 : Nat) : Int):=by omega
    have hq0 : (0 : Int) < ((q.length + 1 : Nat) : Int):=by omega
    have HSk:=hide (And.intro d0 (And.intro d1 (And.intro d2 d3)))
    obtain ⟨q1,q2,hq⟩ : ∃ q1 q2,meet (x0,x1) (y0,y1) = (q1,q2):=⟨_,_,rfl⟩
    have HM:=hide hq
    have hbw:=HBR.out
    have hsz:=hbw.size
    simp only [List.length_cons] at *
    clear hc1 hc2 d0 d1 d2 d3 hq
    go_wp2_with fail
    go_region_held3 (fun w' => w'.cell? ⟨b1,o1,none⟩ = some (.int .i64 x0) /\ w'.cell? ⟨b1,o1 + 1,none⟩ = some (.int .i64 x1) /\ w'.cell? ⟨b2,o2,none⟩ = some (.int .i64 y0) /\ w'.cell? ⟨b2,o2 + 1,none⟩ = some (.int .i64 y1)) (first | exact keep4 (start wr).drew HSk.out | exact keep4 (andthen (start wr).drew (by assumption)) HSk.out | exact keep4 (more (start wr) _).drew HSk.out | exact keep4 (andthen (more (start wr) _) (by assumption)) HSk.out | exact keep4 (more (andthen (start wr).drew (by assumption)) _) HSk.out | exact keep4 (Below.setCell (Below.setCell (andthen (more (start wr) _) (by assumption)) (Nat.le_refl _) _) (Nat.le_refl _) _) HSk.out) ((first
     | (go_at_call 70; (with_reducible refine (meet_is _ _ _ _ q1 q2 wr.drew HM.out).mono ?_); rintro e w2 ⟨rfl,hb2⟩)
     | (go_at_call 70; (with_reducible refine (meet_is _ _ _ _ q1 q2 (wr.alloc (.cells #[.int .i64 0,.int .i64 0] 23)).drew HM.out).mono ?_); rintro e w2 ⟨rfl,hb2⟩; have hb3:=andthen (start (wr.alloc (.cells #[.int .i64 0,.int .i64 0] 23))).drew hb2; obtain ⟨t0,t1,z0,z1,z2⟩:=R.new_at hb3)
     ))
    ·have HB3:=hide (more (andthen (start wr).drew hb2) (.cells #[.int .i64 q1,.int .i64 q2] 23))
     have k0 : (w2.alloc (.cells #[.int .i64 q1,.int .i64 q2] 23)).cell? ⟨w2.heap.size,0,none⟩ = some (.int .i64 q1):=by rw [World.cell?_alloc_at _ _ _ _ rfl]; rfl
     have k1 : (w2.alloc (.cells #[.int .i64 q1,.int .i64 q2] 23)).cell? ⟨w2.heap.size,1,none⟩ = some (.int .i64 q2):=by rw [World.cell?_alloc_at _ _ _ _ rfl]; rfl
     clear hb2
     generalize w2.alloc (.cells #[.int .i64 q1,.int .i64 q2] 23) = w3 at *
     generalize w2.heap.size = X at *
     go_wp2_with fail
     rcases hok : okB (q1,q2)
     ·have HOK:=hide hok
      clear hok
      refine (is_at q1 q2 false _ HOK.out).mono ?_
      rintro e w4 ⟨rfl,hb4⟩
      have HB4:=hide (HBR.out.trans ((HB3.out.trans (hb4.mono HB3.out.size)).mono hsz))
      have HO4:=hide (Own.keep (Own.keep HO.out HB3.out) hb4)
      obtain ⟨e0,e1,e2,e3⟩:=keep4 (andthen HB3.out hb4) HSk.out
      clear hb4 k0 k1 HB3
      by_cases hlt : x1 < y1
      ·have HN:=hide (com_lt' (x0,x1) (y0,y1) p q (q1,q2) HM.out HOK.out hlt out)
       have hdl : decide (x1 < y1) = true:=decide_eq_true hlt
       have HT:=hide (Row.tail HP.out c HC.out)
       go_wp2_with fail
       go_quiet (fail)
       have HB5:=hide (below_drawn HB4.out nq)
       have HO5:=hide (show Own (w4.drewN nq) w.heap.size _ out from Own.keep HO4.out (below_drawn (start w4) nq))
       generalize w4.drewN nq = w5 at *
       clear HB4 HO4 e0 e1 e2 e3
       go_wp2_with fail
       all_goals
        go_roundg (p.length + 1 + (q.length + 1) - 1)
        case measure => omega
        case rel => exact ⟨p,(y0,y1) :: q,_,_,_,_,out,rfl,rfl,(by simp only [List.length_cons]; omega),hide (by have:=HC.out; omega),hide HD.out,hide (by have t:=HT.out; split at t <;> first | exact t | (exfalso; omega)),hide HQ.out,hide HO5.out,hide (by rw [<- HN.out]; exact HE.out),hide (by have:=HL.out; simp only [List.length_cons,List.length_append,List.length_nil] at *; omega),hide HB5.out⟩
      ·have HN:=hide (com_ge' (x0,x1) (y0,y1) p q (q1,q2) HM.out HOK.out hlt out)
       have hdl : decide (x1 < y1) = false:=decide_eq_false hlt
       have HT:=hide (Row.tail HQ.out d HD.out)
       go_wp2_with fail
       go_quiet (fail)
       have HB5:=hide (below_drawn HB4.out nq)
       have HO5:=hide (show Own (w4.drewN nq) w.heap.size _ out from Own.keep HO4.out (below_drawn (start w4) nq))
       generalize w4.drewN nq = w5 at *
       clear HB4 HO4 e0 e1 e2 e3
       go_wp2_with fail
       all_goals
        go_roundg (p.length + 1 + (q.length + 1) - 1)
        case measure => omega
        case rel => exact ⟨(x0,x1) :: p,q,_,_,_,_,out,rfl,rfl,(by simp only [List.length_cons]; omega),hide HC.out,hide (by have:=HD.out; omega),hide HP.out,hide (by have t:=HT.out; split at t <;> first | exact t | (exfalso; omega)),hide HO5.out,hide (by rw [<- HN.out]; exact HE.out),hide (by have:=HL.out; simp only [List.length_cons,List.length_append,List.length_nil] at *; omega),hide HB5.out⟩
     ·have HOK:=hide hok
      clear hok
      refine (is_at q1 q2 true _ HOK.out).mono ?_
      rintro e w4 ⟨rfl,hb4⟩
      have HB3b:=hide (HBR.out.trans ((HB3.out.trans (hb4.mono HB3.out.size)).mono hsz))
      have hown:=Own.keep (Own.keep HO.out HB3.out) hb4
      have HS3:=hide (keep4 (andthen HB3.out hb4) HSk.out)
      replace k0:=cell_keep hb4 k0
      replace k1:=cell_keep hb4 k1
      have hbs:=HB3b.out.size
      have hln : out.length <= 1000000:=by have:=HL.out; omega
      clear hb4 HB3
      generalize hw3 : w4 = w3b at *
      clear hw3
      go_wp2_with (at_builtin; refine wp_oneG (l:=out) (p:=(q1,q2)) rfl _ _ rfl rfl rfl rfl hown hbs hln ?_; intro v4 w4 hown4 hgo4)
      have HO4:=hide hown4
      have HB4:=hide (hgo4.below' hown HB3b.out hbs)
      have f0 : w4.cell? ⟨b1,o1,none⟩ = some (.int .i64 x0):=(HB4.out.cell (p:=⟨b1,_,none⟩) hb1).trans ((HBR.out.cell (p:=⟨b1,_,none⟩) hb1).symm.trans HSk.out.1)
      have e1 : w4.cell? ⟨b1,o1 + 1,none⟩ = some (.int .i64 x1):=(HB4.out.cell (p:=⟨b1,_,none⟩) hb1).trans ((HBR.out.cell (p:=⟨b1,_,none⟩) hb1).symm.trans HSk.out.2.1)
      have e3 : w4.cell? ⟨b2,o2 + 1,none⟩ = some (.int .i64 y1):=(HB4.out.cell (p:=⟨b2,_,none⟩) hb2).trans ((HBR.out.cell (p:=⟨b2,_,none⟩) hb2).symm.trans HSk.out.2.2.2)
      have e0:=f0
      have e2:=e3
      clear hown hown4 hgo4 hbs hln HB3b HS3 k0 k1 f0
      by_cases hlt : x1 < y1
      ·have HN:=hide (com_lt (x0,x1) (y0,y1) p q (q1,q2) HM.out HOK.out hlt out)
       have hdl : decide (x1 < y1) = true:=decide_eq_true hlt
       have HT:=hide (Row.tail HP.out c HC.out)
       go_wp2_with fail
       go_quiet (fail)
       have HB5:=hide (below_drawn HB4.out nq)
       have HO5:=hide (show Own (w4.drewN nq) w.heap.size _ (out ++ [(q1,q2)]) from Own.keep HO4.out (below_drawn (start w4) nq))
       generalize w4.drewN nq = w5 at *
       clear HB4 HO4 e0 e1 e2 e3
       go_wp2_with fail
       all_goals
        go_roundg (p.length + 1 + (q.length + 1) - 1)
        case measure => omega
        case rel => exact ⟨p,(y0,y1) :: q,_,_,_,_,(out ++ [(q1,q2)]),rfl,rfl,(by simp only [List.length_cons]; omega),hide (by have:=HC.out; omega),hide HD.out,hide (by have t:=HT.out; split at t <;> first | exact t | (exfalso; omega)),hide HQ.out,hide HO5.out,hide (by rw [<- HN.out]; exact HE.out),hide (by have:=HL.out; simp only [List.length_cons,List.length_append,List.length_nil] at *; omega),hide HB5.out⟩
      ·have HN:=hide (com_ge (x0,x1) (y0,y1) p q (q1,q2) HM.out HOK.out hlt out)
       have hdl : decide (x1 < y1) = false:=decide_eq_false hlt
       have HT:=hide (Row.tail HQ.out d HD.out)
       go_wp2_with fail
       go_quiet (fail)
       have HB5:=hide (below_drawn HB4.out nq)
       have HO5:=hide (show Own (w4.drewN nq) w.heap.size _ (out ++ [(q1,q2)]) from Own.keep HO4.out (below_drawn (start w4) nq))
       generalize w4.drewN nq = w5 at *
       clear HB4 HO4 e0 e1 e2 e3
       go_wp2_with fail
       all_goals
        go_roundg (p.length + 1 + (q.length + 1) - 1)
        case measure => omega
        case rel => exact ⟨(x0,x1) :: p,q,_,_,_,_,(out ++ [(q1,q2)]),rfl,rfl,(by simp only [List.length_cons]; omega),hide HC.out,hide (by have:=HD.out; omega),hide HP.out,hide (by have t:=HT.out; split at t <;> first | exact t | (exfalso; omega)),hide HO5.out,hide (by rw [<- HN.out]; exact HE.out),hide (by have:=HL.out; simp only [List.length_cons,List.length_append,List.length_nil] at *; omega),hide HB5.out⟩
    ·have HB3:=hide (((andthen (more (start wr) _) hb3).setCell (p:=⟨wr.heap.size,0,none⟩) (Nat.le_refl _) (.int .i64 q1)).setCell (p:=⟨wr.heap.size,1,none⟩) (Nat.le_refl _) (.int .i64 q2))
     have k0 : ((w2.setCell ⟨wr.heap.size,0,none⟩ (.int .i64 q1)).setCell ⟨wr.heap.size,1,none⟩ (.int .i64 q2)).cell? ⟨wr.heap.size,0,none⟩ = some (.int .i64 q1):=(R.set2 t0 t1).1
     have k1 : ((w2.setCell ⟨wr.heap.size,0,none⟩ (.int .i64 q1)).setCell ⟨wr.heap.size,1,none⟩ (.int .i64 q2)).cell? ⟨wr.heap.size,1,none⟩ = some (.int .i64 q2):=(R.set2 t0 t1).2
     clear hb2 hb3 t0 t1 z0 z1 z2
     generalize (w2.setCell ⟨wr.heap.size,0,none⟩ (.int .i64 q1)).setCell ⟨wr.heap.size,1,none⟩ (.int .i64 q2) = w3 at *
     go_wp2_with fail
     rcases hok : okB (q1,q2)
     ·have HOK:=hide hok
      clear hok
      refine (is_at q1 q2 false _ HOK.out).mono ?_
      rintro e w4 ⟨rfl,hb4⟩
      have HB4:=hide (HBR.out.trans ((HB3.out.trans (hb4.mono HB3.out.size)).mono hsz))
      have HO4:=hide (Own.keep (Own.keep HO.out HB3.out) hb4)
      obtain ⟨e0,e1,e2,e3⟩:=keep4 (andthen HB3.out hb4) HSk.out
      clear hb4 k0 k1 HB3
      by_cases hlt : x1 < y1
      ·have HN:=hide (com_lt' (x0,x1) (y0,y1) p q (q1,q2) HM.out HOK.out hlt out)
       have hdl : decide (x1 < y1) = true:=decide_eq_true hlt
       have HT:=hide (Row.tail HP.out c HC.out)
       go_wp2_with fail
       go_quiet (fail)
       have HB5:=hide (below_drawn HB4.out nq)
       have HO5:=hide (show Own (w4.drewN nq) w.heap.size _ out from Own.keep HO4.out (below_drawn (start w4) nq))
       generalize w4.drewN nq = w5 at *
       clear HB4 HO4 e0 e1 e2 e3
       go_wp2_with fail
       all_goals
        go_roundg (p.length + 1 + (q.length + 1) - 1)
        case measure => omega
        case rel => exact ⟨p,(y0,y1) :: q,_,_,_,_,out,rfl,rfl,(by simp only [List.length_cons]; omega),hide (by have:=HC.out; omega),hide HD.out,hide (by have t:=HT.out; split at t <;> first | exact t | (exfalso; omega)),hide HQ.out,hide HO5.out,hide (by rw [<- HN.out]; exact HE.out),hide (by have:=HL.out; simp only [List.length_cons,List.length_append,List.length_nil] at *; omega),hide HB5.out⟩
      ·have HN:=hide (com_ge' (x0,x1) (y0,y1) p q (q1,q2) HM.out HOK.out hlt out)
       have hdl : decide (x1 < y1) = false:=decide_eq_false hlt
       have HT:=hide (Row.tail HQ.out d HD.out)
       go_wp2_with fail
       go_quiet (fail)
       have HB5:=hide (below_drawn HB4.out nq)
       have HO5:=hide (show Own (w4.drewN nq) w.heap.size _ out from Own.keep HO4.out (below_drawn (start w4) nq))
       generalize w4.drewN nq = w5 at *
       clear HB4 HO4 e0 e1 e2 e3
       go_wp2_with fail
       all_goals
        go_roundg (p.length + 1 + (q.length + 1) - 1)
        case measure => omega
        case rel => exact ⟨(x0,x1) :: p,q,_,_,_,_,out,rfl,rfl,(by simp only [List.length_cons]; omega),hide HC.out,hide (by have:=HD.out; omega),hide HP.out,hide (by have t:=HT.out; split at t <;> first | exact t | (exfalso; omega)),hide HO5.out,hide (by rw [<- HN.out]; exact HE.out),hide (by have:=HL.out; simp only [List.length_cons,List.length_append,List.length_nil] at *; omega),hide HB5.out⟩
     ·have HOK:=hide hok
      clear hok
      refine (is_at q1 q2 true _ HOK.out).mono ?_
      rintro e w4 ⟨rfl,hb4⟩
      have HB3b:=hide (HBR.out.trans ((HB3.out.trans (hb4.mono HB3.out.size)).mono hsz))
      have hown:=Own.keep (Own.keep HO.out HB3.out) hb4
      have HS3:=hide (keep4 (andthen HB3.out hb4) HSk.out)
      replace k0:=cell_keep hb4 k0
      replace k1:=cell_keep hb4 k1
      have hbs:=HB3b.out.size
      have hln : out.length <= 1000000:=by have:=HL.out; omega
      clear hb4 HB3
      generalize hw3 : w4 = w3b at *
      clear hw3
      go_wp2_with (at_builtin; refine wp_oneG (l:=out) (p:=(q1,q2)) rfl _ _ rfl rfl rfl rfl hown hbs hln ?_; intro v4 w4 hown4 hgo4)
      have HO4:=hide hown4
      have HB4:=hide (hgo4.below' hown HB3b.out hbs)
      have f0 : w4.cell? ⟨b1,o1,none⟩ = some (.int .i64 x0):=(HB4.out.cell (p:=⟨b1,_,none⟩) hb1).trans ((HBR.out.cell (p:=⟨b1,_,none⟩) hb1).symm.trans HSk.out.1)
      have e1 : w4.cell? ⟨b1,o1 + 1,none⟩ = some (.int .i64 x1):=(HB4.out.cell (p:=⟨b1,_,none⟩) hb1).trans ((HBR.out.cell (p:=⟨b1,_,none⟩) hb1).symm.trans HSk.out.2.1)
      have e3 : w4.cell? ⟨b2,o2 + 1,none⟩ = some (.int .i64 y1):=(HB4.out.cell (p:=⟨b2,_,none⟩) hb2).trans ((HBR.out.cell (p:=⟨b2,_,none⟩) hb2).symm.trans HSk.out.2.2.2)
      have e0:=f0
      have e2:=e3
      clear hown hown4 hgo4 hbs hln HB3b HS3 k0 k1 f0
      by_cases hlt : x1 < y1
      ·have HN:=hide (com_lt (x0,x1) (y0,y1) p q (q1,q2) HM.out HOK.out hlt out)
       have hdl : decide (x1 < y1) = true:=decide_eq_true hlt
       have HT:=hide (Row.tail HP.out c HC.out)
       go_wp2_with fail
       go_quiet (fail)
       have HB5:=hide (below_drawn HB4.out nq)
       have HO5:=hide (show Own (w4.drewN nq) w.heap.size _ (out ++ [(q1,q2)]) from Own.keep HO4.out (below_drawn (start w4) nq))
       generalize w4.drewN nq = w5 at *
       clear HB4 HO4 e0 e1 e2 e3
       go_wp2_with fail
       all_goals
        go_roundg (p.length + 1 + (q.length + 1) - 1)
        case measure => omega
        case rel => exact ⟨p,(y0,y1) :: q,_,_,_,_,(out ++ [(q1,q2)]),rfl,rfl,(by simp only [List.length_cons]; omega),hide (by have:=HC.out; omega),hide HD.out,hide (by have t:=HT.out; split at t <;> first | exact t | (exfalso; omega)),hide HQ.out,hide HO5.out,hide (by rw [<- HN.out]; exact HE.out),hide (by have:=HL.out; simp only [List.length_cons,List.length_append,List.length_nil] at *; omega),hide HB5.out⟩
      ·have HN:=hide (com_ge (x0,x1) (y0,y1) p q (q1,q2) HM.out HOK.out hlt out)
       have hdl : decide (x1 < y1) = false:=decide_eq_false hlt
       have HT:=hide (Row.tail HQ.out d HD.out)
       go_wp2_with fail
       go_quiet (fail)
       have HB5:=hide (below_drawn HB4.out nq)
       have HO5:=hide (show Own (w4.drewN nq) w.heap.size _ (out ++ [(q1,q2)]) from Own.keep HO4.out (below_drawn (start w4) nq))
       generalize w4.drewN nq = w5 at *
       clear HB4 HO4 e0 e1 e2 e3
       go_wp2_with fail
       all_goals
        go_roundg (p.length + 1 + (q.length + 1) - 1)
        case measure => omega
        case rel => exact ⟨(x0,x1) :: p,q,_,_,_,_,(out ++ [(q1,q2)]),rfl,rfl,(by simp only [List.length_cons]; omega),hide HC.out,hide (by have:=HD.out; omega),hide HP.out,hide (by have t:=HT.out; split at t <;> first | exact t | (exfalso; omega)),hide HO5.out,hide (by rw [<- HN.out]; exact HE.out),hide (by have:=HL.out; simp only [List.length_cons,List.length_append,List.length_nil] at *; omega),hide HB5.out⟩
end Go.Proofs.YtgihekokbgggcaaGreat.S2

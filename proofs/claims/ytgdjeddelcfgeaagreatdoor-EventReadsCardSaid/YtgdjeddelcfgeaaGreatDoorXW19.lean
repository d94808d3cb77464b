/- RtPut; RtWd; RtWds of the recipes, what is needed of them. -/
import Derived.Deep.Cut
import Derived.Deep.RegionHeld3
import Derived.Test.YtgdjeddelcfgeaaGreatDoorXRtPrF
import Derived.Test.YtgdjeddelcfgeaaGreatDoorXW3
import Derived.Test.YtgdjeddelcfgeaaGreatDoorXW2
import Derived.Test.YtgdjeddelcfgeaaGreatDoorXRuS
namespace Go.Proofs.YtgdjeddelcfgeaaGreatDoor
open Go.RowKit Rul Rt Go.Sort

def PutA (w : World) (o : Option (List Int)) (e : Ending) (w' : World) : Prop:=Below w.heap.size w w' ∧
 ((o = none ∧ ∃ v,e = .returned (.tuple #[v,.bool false])) ∨ ∃ l v,o = some l ∧ e = .returned (.tuple #[v,.bool true]) ∧ OwnI w' w.heap.size v l)
theorem OwnI.low2 {w : World} {B B2 : Nat} {v : Value} {l : List Int} (h : OwnI w B v l) (hb : B2 ≤ B) : OwnI w B2 v l:=by
 refine ⟨h.1,?_⟩
 rcases h.2 with g | ⟨g,cap,cur,e,hg,r⟩
 ·exact Or.inl g
 ·exact Or.inr ⟨g,cap,cur,e,Nat.le_trans hb hg,r⟩

set_option maxRecDepth 100000 in
set_option maxHeartbeats 1000000 in
theorem put_any (x : Int) (A : Option Addr) (n c : Nat) (l : List Int) (w : World) (hl : RowI w A l) (hn : n = l.length) (hsz : l.length ≤ 100000) :
  Calls Tryz.prog 122 #[.slice A n c,.int .i64 x] w (PutA w (putO inLt x l)):=by
 subst hn
 have HR:=hide hl
 clear hl
 go_enter Tryz.func122,Tryz.ntmps122
 go_wp2_with fail
 go_loopw [6,7,8] (fun v d i wr => ∃ (j : Nat) (out : List Int) (b : Bool),j ≤ l.length ∧ i = .int .i64 j ∧ d = .bool b ∧ OwnI wr w.heap.size v out ∧ Hid (PutAt inLt x l j out b) ∧ Hid (out.length ≤ j + 1) ∧ Below w.heap.size w wr) (fun _ _ i _ => l.length - (intOf i).toNat)
 case atStart => exact ⟨0,[],false,Nat.zero_le _,rfl,rfl,ownI_nil _ _,hide (PutAt.zero inLt x l),hide (Nat.zero_le _),start _⟩
 case round =>
  obtain ⟨j,out,b,hj,rfl,rfl,hown,HP,HL,hbw⟩:=hrel
  have HO:=hide hown
  have HBR:=hide hbw
  clear hown hbw
  by_cases hlt : j < l.length
  ·obtain ⟨b1,o1,rfl,hb1,hc1⟩:=HR.out (by intro h0; rw [h0] at hlt; exact absurd hlt (Nat.not_lt_zero _))
   obtain ⟨m,hm⟩ : ∃ m,l[j] = m:=⟨_,rfl⟩
   have p1 : wr.cell? ⟨b1,o1 + j,none⟩ = some (.int .i64 m):=by rw [← hm]; exact (HBR.out.cell (p:=⟨b1,_,none⟩) hb1).trans (hc1 j hlt)
   have hi0 : (0 : Int) ≤ (j : Int):=by omega
   have hi1 : (j : Int) < (l.length : Int):=by omega
   clear hc1
   by_cases hq : m = x
   ·have q : (m == x) = true:=beq_iff_eq.2 hq
    have HN : Hid (putO inLt x l = none):=hide (putO_no (by rw [← hq,← hm]; exact List.getElem_mem hlt))
    clear hm hq
    go_wp2_with fail
    go_ret2
    exact ⟨HBR.out,Or.inl ⟨HN.out,_,rfl⟩⟩
   ·have q : (m == x) = false:=beq_eq_false_iff_ne.2 hq
    cases b with
    | true =>
     have HN : Hid (PutAt inLt x l (j + 1) (out ++ [m]) true):=hide (by have:=HP.out.past hlt (by rw [hm]; exact hq); rwa [hm] at this)
     have hz:=HBR.out.size
     have hown:=HO.out
     have hln : out.length ≤ 1000000:=by have:=HL.out; omega
     clear hm hq
     go_wp2_with (at_builtin; refine wp_oneI (l:=out) (p:=m) rfl _ _ rfl rfl rfl rfl hown hz hln ?_; intro v3 w3 hown3 hb3)
     have HO3:=hide hown3
     have HB3:=hide (HBR.out.trans hb3)
     clear hown hown3 hb3 hz hln
     go_wp2_with fail
     go_roundw
     case rel => exact ⟨j + 1,out ++ [m],true,by omega,by go_num,rfl,HO3.out,HN,hide (by have:=HL.out; rw [List.length_append]; simp; omega),HB3.out⟩
     case measure => simp [intOf]; omega
    | false =>
     by_cases ht : x < m
     ·have q2 : decide (x < m) = true:=decide_eq_true ht
      have HN : Hid (PutAt inLt x l (j + 1) ((out ++ [x]) ++ [m]) true):=hide (by have:=HP.out.ahead hlt (by rw [hm]; exact hq) (by rw [hm]; exact q2); rwa [hm] at this)
      have HLO : Hid (out.length ≤ j):=hide (by
       rcases HP.out.rest with ⟨_,e,_⟩ | ⟨e,_⟩
       ·rw [e,List.length_take]; omega
       ·cases e)
      have hz:=HBR.out.size
      have hown:=HO.out
      have hln : out.length ≤ 1000000:=by have:=HL.out; omega
      clear hm hq ht
      go_upto_region 11 with (at_builtin; refine wp_oneI (l:=out) (p:=x) rfl _ _ rfl rfl rfl rfl hown hz hln ?_; intro v3 w3 hown3 hb3; have p2 : w3.cell? ⟨b1,o1 + j,none⟩ = some (.int .i64 m):=(hb3.cell (p:=⟨b1,_,none⟩) hb1).trans p1)
      have HO3:=hide hown3
      have HB3:=hide (HBR.out.trans hb3)
      have hz:=HB3.out.size
      clear hown hown3 hb3 hz hln p1
      have hz:=HB3.out.size
      have hown:=HO3.out
      have hln : (out ++ [x]).length ≤ 1000000:=by have:=HL.out; rw [List.length_append]; simp; omega
      go_wp2_with (at_builtin; refine wp_oneI (l:=out ++ [x]) (p:=m) rfl _ _ rfl rfl rfl rfl hown hz hln ?_; intro v4 w4 hown4 hb4)
      have HO4:=hide hown4
      have HB4:=hide (HB3.out.trans hb4)
      clear hown hown4 hb4 hz hln
      go_wp2_with fail
      go_roundw
      case rel => exact ⟨j + 1,_,true,by omega,by go_num,rfl,HO4.out,HN,hide (by have:=HLO.out; rw [List.length_append,List.length_append]; simp; omega),HB4.out⟩
      case measure => simp [intOf]; omega
     ·have q2 : decide (x < m) = false:=decide_eq_false ht
      have HN : Hid (PutAt inLt x l (j + 1) (out ++ [m]) false):=hide (by have:=HP.out.skip hlt (by rw [hm]; exact hq) (by rw [hm]; exact q2); rwa [hm] at this)
      have hz:=HBR.out.size
      have hown:=HO.out
      have hln : out.length ≤ 1000000:=by have:=HL.out; omega
      clear hm hq ht
      go_wp2_with (at_builtin; refine wp_oneI (l:=out) (p:=m) rfl _ _ rfl rfl rfl rfl hown hz hln ?_; intro v3 w3 hown3 hb3)
      have HO3:=hide hown3
      have HB3:=hide (HBR.out.trans hb3)
      clear hown hown3 hb3 hz hln
      go_wp2_with fail
      go_roundw
      case rel => exact ⟨j + 1,out ++ [m],false,by omega,by go_num,rfl,HO3.out,HN,hide (by have:=HL.out; rw [List.length_append]; simp; omega),HB3.out⟩
      case measure => simp [intOf]; omega
  ·obtain rfl : j = l.length:=by omega
   cases b with
   | true =>
    have HF : Hid (putO inLt x l = some out):=hide (by obtain ⟨e,hn⟩:=HP.out.done; rw [putO_yes hn,e])
    go_wp2_with fail
    go_ret2
    exact ⟨HBR.out,Or.inr ⟨_,_,HF.out,rfl,HO.out⟩⟩
   | false =>
    have HF : Hid (putO inLt x l = some (out ++ [x])):=hide (by obtain ⟨e,hn⟩:=HP.out.last; rw [putO_yes hn,e])
    have hz:=HBR.out.size
    have hown:=HO.out
    have hln : out.length ≤ 1000000:=by have:=HL.out; omega
    go_wp2_with (at_builtin; refine wp_oneI (l:=out) (p:=x) rfl _ _ rfl rfl rfl rfl hown hz hln ?_; intro v3 w3 hown3 hb3)
    have HO3:=hide hown3
    have HB3:=hide (HBR.out.trans hb3)
    clear hown hown3 hb3 hz hln
    go_wp2_with fail
    go_ret2
    exact ⟨HB3.out,Or.inr ⟨_,_,HF.out,rfl,HO3.out⟩⟩

def IntsA (w : World) (o : Option (List Int)) (e : Ending) (w' : World) : Prop:=Below w.heap.size w w' ∧
 ((o = none ∧ e = .returned (.tuple #[.slice none 0 0,.bool false])) ∨ ∃ l v,o = some l ∧ e = .returned (.tuple #[v,.bool true]) ∧ OwnI w' w.heap.size v l)
theorem cutAt_sub (c : UInt8) : ∀ (t p : Tx),p ∈ cutAt c t → p.length ≤ t.length:=fun t p hp => by
 have h:=join_cut c t
 have key : ∀ ps : List Tx,p ∈ ps → p.length ≤ (joinAt c ps).length:=by
  intro ps
  induction ps with
  | nil => intro h; cases h
  | cons q r ih =>
   intro h
   cases r with
   | nil =>
    simp only [List.mem_cons,List.not_mem_nil,or_false] at h
    rw [h]; exact Nat.le_refl _
   | cons z r =>
    rw [joinAt,List.length_append,List.length_cons]
    rcases List.mem_cons.1 h with rfl | h
    ·omega
    ·have:=ih h; omega
 have:=key _ hp
 rwa [h] at this
set_option maxRecDepth 100000 in
set_option maxHeartbeats 1000000 in
theorem ints_any (s : ByteArray) (b : Bool) (w : World) (hs : s.size ≤ 900) :
  Calls Tryz.prog 88 #[.string s,.bool b] w (IntsA w (listR inLt (decR · b) s.data.toList)):=by
 have hcl:=cutAt_len 44 s.data.toList
 have hcs:=cutAt_sub 44 s.data.toList
 rw [len_of] at hcl hcs
 have HC:=hide (fun w => rCut_any s 44 44 w rfl (by omega))
 have HF : Hid (listR inLt (decR · b) s.data.toList = insAll inLt (decR · b) (cutAt 44 s.data.toList) []):=hide rfl
 rw [HF.out]
 generalize cutAt 44 s.data.toList = ps at *
 clear HF
 go_enter Tryz.func88,Tryz.ntmps88
 go_wp2_with fail
 refine (HC.out _).mono ?_
 rintro e w1 ⟨v,rfl,hown,hb1⟩
 obtain ⟨A,cap,rfl,hrow,hcap⟩:=OwnS.row hown
 have HR:=hide hrow
 have HB1:=hide hb1
 clear hown hrow hb1
 go_wp2_with fail
 go_loopw [7,8,9,10] (fun v i _ _ wr => ∃ (j : Nat) (k : List Int),j ≤ ps.length ∧ i = .int .i64 j ∧ OwnI wr w.heap.size v k ∧ Hid (insAll inLt (decR · b) (ps.take j) [] = some k) ∧ Below w1.heap.size w1 wr) (fun _ i _ _ _ => ps.length - (intOf i).toNat)
 case atStart => exact ⟨0,[],Nat.zero_le _,rfl,ownI_nil _ _,hide rfl,start _⟩
 case round =>
  obtain ⟨j,k,hj,rfl,hown,HK,hbw⟩:=hrel
  have HO:=hide hown
  have HBR:=hide hbw
  have HBW:=hide (andthen HB1.out hbw)
  clear hown hbw
  by_cases hlt : j < ps.length
  ·obtain ⟨b1,o1,rfl,hb1,hc1⟩:=HR.out (by intro h0; rw [h0] at hlt; exact absurd hlt (Nat.not_lt_zero _))
   obtain ⟨T,hm⟩ : ∃ T,ps[j] = T:=⟨_,rfl⟩
   have p1 : wr.cell? ⟨b1,o1 + j,none⟩ = some (.string (str T)):=by rw [← hm]; exact (HBR.out.cell (p:=⟨b1,_,none⟩) hb1).trans (hc1 j hlt)
   have hi0 : (0 : Int) ≤ (j : Int):=by omega
   have hi1 : (j : Int) < (ps.length : Int):=by omega
   have hT : (str T).size ≤ 100000:=by rw [str_size,← hm]; exact Nat.le_trans (hcs _ (List.getElem_mem hlt)) (by omega)
   have HD:=hide (fun w => rDec_any (str T) b w hT)
   have hkl : k.length ≤ 1000:=by have:=insAll_len _ _ _ HK.out; rw [List.length_take,List.length_nil] at this; omega
   rw [str_list] at HD
   clear hc1
   cases hd : decR T b with
   | none =>
    rw [decA_none hd] at HD
    have HN : Hid (insAll inLt (decR · b) ps [] = none):=hide (insAll_at_none hlt HK.out (by rw [hm]; simp only [hd]))
    clear hm hd
    go_wp2_with fail
    refine (HD.out _).mono ?_
    rintro e w2 ⟨rfl,rfl⟩
    go_wp2_with fail
    go_ret2
    exact ⟨HBW.out,Or.inl ⟨HN.out,rfl⟩⟩
   | some x =>
    rw [decA_some hd] at HD
    obtain ⟨A2,cap2,rfl,hrow2⟩:=OwnI.row HO.out
    have HP:=hide (fun w h => put_any x A2 _ cap2 k w h rfl (by omega))
    have HRW:=hide hrow2
    clear hrow2
    go_wp2_with fail
    refine (HD.out _).mono ?_
    rintro e w2 ⟨rfl,rfl⟩
    go_wp2_with fail
    refine (HP.out _ HRW.out).mono ?_
    rintro e w3 ⟨hb3,⟨hnone,v3,rfl⟩ | ⟨k2,v3,hsome,rfl,hown3⟩⟩
    ·have HN : Hid (insAll inLt (decR · b) ps [] = none):=hide (insAll_at_none hlt HK.out (by rw [hm]; simp only [hd]; exact hnone))
     replace HBW:=hide (andthen HBW.out hb3)
     clear hm hd hb3 hnone
     go_wp2_with fail
     go_ret2
     exact ⟨HBW.out,Or.inl ⟨HN.out,rfl⟩⟩
    ·have HN : Hid (insAll inLt (decR · b) (ps.take (j + 1)) [] = some k2):=hide (by
      rw [List.take_succ_eq_append_getElem hlt,insAll_snoc _ _ _ HK.out,hm]; simp only [hd]; exact hsome)
     have HO3:=hide (hown3.low2 HBW.out.size)
     replace HBR:=hide (andthen HBR.out hb3)
     clear hm hd hb3 hsome hown3
     go_wp2_with fail
     go_roundw
     case rel => exact ⟨j + 1,k2,by omega,by go_num,HO3.out,HN,HBR.out⟩
     case measure => simp [intOf]; omega
  ·obtain rfl : j = ps.length:=by omega
   rw [List.take_length] at HK
   go_wp2_with fail
   go_ret2
   exact ⟨HBW.out,Or.inr ⟨_,_,HK.out,rfl,HO.out⟩⟩

end Go.Proofs.YtgdjeddelcfgeaaGreatDoor
namespace Go.Proofs.YtgdjeddelcfgeaaGreatDoor
open Go.RowKit Rul Rt Go.Sort

def MayD (w : World) (o : Option Wd) (e : Ending) (w' : World) : Prop:=Below w.heap.size w w' ∧ ∃ n d : Int,(∀ m,o = some m → (n,d) = m) ∧ e = .returned (.tuple #[.agg #[.int .i64 n,.int .i64 d],.bool o.isSome])
structure WdW (w : World) (X : Nat) (n m : Int) (W : World) : Prop where
 r0 : W.cell? ⟨w.heap.size,0,none⟩ = some (.int .i64 0)
 r1 : W.cell? ⟨w.heap.size,1,none⟩ = some (.int .i64 0)
 x0 : W.cell? ⟨X,0,none⟩ = some (.int .i64 n)
 x1 : W.cell? ⟨X,1,none⟩ = some (.int .i64 m)
 fr0 : W.frozen? ⟨w.heap.size,0,none⟩ = false
 fr1 : W.frozen? ⟨w.heap.size,1,none⟩ = false
 fx0 : W.frozen? ⟨X,0,none⟩ = false
 fx1 : W.frozen? ⟨X,1,none⟩ = false
 gt : w.heap.size < X
 below : Below w.heap.size w W
theorem WdW.ltx {w W : World} {X : Nat} {n m : Int} (h : WdW w X n m W) : X < W.heap.size:=block_lt_of_cell h.x0
theorem WdW.ltr {w W : World} {X : Nat} {n m : Int} (h : WdW w X n m W) : w.heap.size < W.heap.size:=block_lt_of_cell h.r0
theorem WdW.keep {w W W1 : World} {X : Nat} {n m : Int} (h : WdW w X n m W) (hb : Below W.heap.size W W1) : WdW w X n m W1 :=
 ⟨cell_keep hb h.r0,cell_keep hb h.r1,cell_keep hb h.x0,cell_keep hb h.x1,(hb.frozen (p:=⟨w.heap.size,0,none⟩) h.ltr).trans h.fr0,(hb.frozen (p:=⟨w.heap.size,1,none⟩) h.ltr).trans h.fr1,(hb.frozen (p:=⟨X,0,none⟩) h.ltx).trans h.fx0,(hb.frozen (p:=⟨X,1,none⟩) h.ltx).trans h.fx1,h.gt,andthen h.below hb⟩
theorem wd_st {W : World} {b i : Nat} {x y : Value} (h : W.cell? ⟨b,i,none⟩ = some x) : (W.setCell ⟨b,i,none⟩ y).cell? ⟨b,i,none⟩ = some y:=World.cell?_setCell_same _ _ _ h
theorem wd_ot {W : World} {b c i j : Nat} {x y : Value} (hn : b ≠ c ∨ i ≠ j) (h : W.cell? ⟨b,i,none⟩ = some x) : (W.setCell ⟨c,j,none⟩ y).cell? ⟨b,i,none⟩ = some x :=
 (World.cell?_setCell_other _ _ _ _ (by intro hc; injection hc with h1 h2; omega)).trans h
theorem wd_fz {W : World} {b c i j : Nat} {y : Value} (h : W.frozen? ⟨b,i,none⟩ = false) : (W.setCell ⟨c,j,none⟩ y).frozen? ⟨b,i,none⟩ = false:=by rw [World.frozen?_setCell]; exact h
theorem WdW.set1 {w W : World} {X : Nat} {n m : Int} (h : WdW w X n m W) (k : Int) : WdW w X n k (W.setCell ⟨X,1,none⟩ (.int .i64 k)):=by
 have:=h.gt
 exact ⟨wd_ot (Or.inl (by omega)) h.r0,wd_ot (Or.inl (by omega)) h.r1,wd_ot (Or.inr (by omega)) h.x0,wd_st h.x1,wd_fz h.fr0,wd_fz h.fr1,wd_fz h.fx0,wd_fz h.fx1,h.gt,h.below.setCell (Nat.le_of_lt h.gt) _⟩
theorem WdW.set0 {w W : World} {X : Nat} {n m : Int} (h : WdW w X n m W) (k : Int) : WdW w X k m (W.setCell ⟨X,0,none⟩ (.int .i64 k)):=by
 have:=h.gt
 exact ⟨wd_ot (Or.inl (by omega)) h.r0,wd_ot (Or.inl (by omega)) h.r1,wd_st h.x0,wd_ot (Or.inr (by omega)) h.x1,wd_fz h.fr0,wd_fz h.fr1,wd_fz h.fx0,wd_fz h.fx1,h.gt,h.below.setCell (Nat.le_of_lt h.gt) _⟩
theorem wdW_new (w : World) (t : TypeId) (m : Int) : WdW w (w.heap.size + 1) 0 m ((w.alloc (.cells #[.int .i64 0,.int .i64 0] t)).alloc (.cells #[.int .i64 0,.int .i64 m] t)):=by
 refine ⟨?_,?_,?_,?_,?_,?_,?_,?_,by omega,more (more (start _) _) _⟩
 ·rw [World.cell?_alloc_past _ _ _ (by simp),World.cell?_alloc_at _ _ _ _ rfl]; rfl
 ·rw [World.cell?_alloc_past _ _ _ (by simp),World.cell?_alloc_at _ _ _ _ rfl]; rfl
 ·rw [World.cell?_alloc_at _ _ _ _ (by simp)]; rfl
 ·rw [World.cell?_alloc_at _ _ _ _ (by simp)]; rfl
 all_goals simp
def ResW (w : World) (n m : Int) (W : World) : Prop:=W.cell? ⟨w.heap.size,0,none⟩ = some (.int .i64 n) ∧ W.cell? ⟨w.heap.size,1,none⟩ = some (.int .i64 m) ∧ Below w.heap.size w W
theorem WdW.res {w W : World} {X : Nat} {n m : Int} (h : WdW w X n m W) (a b : Int) : ResW w a b ((W.setCell ⟨w.heap.size,0,none⟩ (.int .i64 a)).setCell ⟨w.heap.size,1,none⟩ (.int .i64 b)) :=
 ⟨wd_ot (Or.inr (by omega)) (wd_st h.r0),wd_st (wd_ot (Or.inr (by omega)) h.r1),(h.below.setCell (Nat.le_refl _) _).setCell (Nat.le_refl _) _⟩
theorem resW_new (w : World) (t : TypeId) : ResW w 0 0 (w.alloc (.cells #[.int .i64 0,.int .i64 0] t)):=by
 refine ⟨?_,?_,more (start _) _⟩
 all_goals (rw [World.cell?_alloc_at _ _ _ _ rfl]; rfl)
theorem wd_far {w : World} {p q i : Nat} {u x0 x1 : Value} (h : p < q) (c : w.cell? ⟨q,i,none⟩ = some u) :
  ((w.setCell ⟨p,0,none⟩ x0).setCell ⟨p,1,none⟩ x1).cell? ⟨q,i,none⟩ = some u:=by
 repeat rw [World.cell?_setCell_other _ _ _ _ (by intro hc; injection hc with hc1; omega)]
 exact c
def AtEnd (L : Tx) (j : Nat) (m : Int) : Prop:=(m = -1 ∧ ∀ i,i < j → dayWs.getD i [] ≠ L) ∨ ∃ k : Nat,k < j ∧ k < 7 ∧ m = (k : Int) ∧ dayWs.getD k [] = L
theorem AtEnd.bd {L : Tx} {j : Nat} {m : Int} (h : AtEnd L j m) : -1 ≤ m ∧ m ≤ 6:=by
 rcases h with ⟨h,_⟩ | ⟨k,_,h,g,_⟩ <;> omega
theorem AtEnd.ix {L : Tx} {m : Int} (h : AtEnd L 7 m) : ixOf dayWs L = if 0 ≤ m then some m.toNat else none:=by
 rcases h with ⟨rfl,h⟩ | ⟨k,_,h7,rfl,rfl⟩
 ·rw [if_neg (by omega)]
  cases hx : ixOf dayWs L with
  | none => rfl
  | some k =>
   have h1:=ixOf_some hx
   have h2 : k < 7:=(List.getElem?_eq_some_iff.1 h1).1
   exact absurd (by rw [List.getD_eq_getElem?_getD,h1]; rfl) (h k h2)
 ·rw [if_pos (by omega),Int.toNat_natCast]
  have : ∀ k : Nat,k < 7 → ixOf dayWs (dayWs.getD k []) = some k:=by decide
  exact this k h7
theorem day_0 (j : Nat) (h : j < 7) : dayT (0,(j : Int)) = dayWs.getD j []:=by
 unfold dayT
 rw [if_pos (show 0 ≤ (j : Int) ∧ (j : Int) < 7 from ⟨by omega,by omega⟩),if_pos rfl,Int.toNat_natCast]; rfl
theorem dayWs_len (j : Nat) (h : j < 7) : (dayWs.getD j []).length = 2:=by
 have : ∀ k : Nat,k < 7 → (dayWs.getD k []).length = 2:=by decide
 exact this j h
theorem wdr_short (f : Tx → Option Int) (t : Tx) (h : t.length < 2) : wdWith f t = none:=by
 have hx : ixOf dayWs (t.drop (t.length - 2)) = none:=by
  cases hx : ixOf dayWs (t.drop (t.length - 2)) with
  | none => rfl
  | some k =>
   have h1:=ixOf_some hx
   have h7 : k < 7:=(List.getElem?_eq_some_iff.1 h1).1
   have hl:=dayWs_len k h7
   rw [List.getD_eq_getElem?_getD,h1] at hl
   simp only [Option.getD_some,List.length_drop] at hl
   omega
 unfold wdWith; rw [hx]
theorem wdr_two (f : Tx → Option Int) (t : Tx) (m : Int) (hl : t.length = 2) (h : ixOf dayWs (t.drop (t.length - 2)) = if 0 ≤ m then some m.toNat else none) : wdWith f t = if 0 ≤ m then some (0,m) else none:=by
 unfold wdWith
 rw [h]
 by_cases hm : 0 ≤ m
 ·rw [if_pos hm,if_pos hm]
  simp only
  rw [if_pos hl,Int.toNat_of_nonneg hm]
 ·rw [if_neg hm,if_neg hm]
theorem wdr_more (f : Tx → Option Int) (t : Tx) (m : Int) (hl : t.length ≠ 2) (h : ixOf dayWs (t.drop (t.length - 2)) = if 0 ≤ m then some m.toNat else none) : wdWith f t = match f (t.take (t.length - 2)) with
  | none => none
  | some n => if n = 0 then none else if 0 ≤ m then some (n,m) else none:=by
 unfold wdWith
 rw [h]
 by_cases hm : 0 ≤ m
 ·rw [if_pos hm]
  simp only
  rw [if_neg hl,Int.toNat_of_nonneg hm]
  cases f (t.take (t.length - 2)) with
  | none => rfl
  | some n => simp only; rw [if_pos hm]
 ·rw [if_neg hm]
  simp only
  cases f (t.take (t.length - 2)) with
  | none => rfl
  | some n => simp only; rw [if_neg hm]; split <;> rfl
theorem mayD_if {w w' : World} {o : Option Wd} {n m : Int} (ho : o = if 0 ≤ m then some (n,m) else none) (hb : Below w.heap.size w w') : MayD w o (.returned (.tuple #[.agg #[.int .i64 n,.int .i64 m],.bool (decide (0 ≤ m))])) w':=by
 refine ⟨hb,n,m,fun x hx => ?_,?_⟩
 ·rw [ho] at hx
  split at hx
  ·injection hx
  ·cases hx
 ·rw [ho]
  by_cases hm : 0 ≤ m
  ·rw [if_pos hm,decide_eq_true hm]; rfl
  ·rw [if_neg hm,decide_eq_false hm]; rfl

set_option maxRecDepth 100000 in
set_option maxHeartbeats 1000000 in
theorem rwday_short (s : ByteArray) (w : World) (hs : s.size < 2) :
  Calls Tryz.prog 190 #[.string s] w (MayD w (wdWith (decR · true) s.data.toList)):=by
 have HO:=hide (wdr_short (decR · true) s.data.toList (by rw [len_of]; exact hs))
 rw [HO.out]
 have q : decide ((s.size : Int) < 2) = true:=decide_eq_true (by omega)
 have HN:=hide (resW_new w 83)
 go_enter Tryz.func190,Tryz.ntmps190
 go_wp2_with fail
 refine ret_gen (ResW w 0 0) HN.out ?_
 rintro WF ⟨c0,c1,hb⟩
 exact bodyPost_ret (v:=.tuple #[.agg #[.int .i64 0,.int .i64 0],.bool false]) (by simp [results,Tryz.results190,go_sem,c0,c1]) rfl ⟨hb,0,0,fun m hm => (by cases hm),rfl⟩

set_option maxRecDepth 100000 in
set_option maxHeartbeats 4000000 in
theorem rwday_long (s : ByteArray) (w : World) (hs : 2 ≤ s.size) (hs2 : s.size ≤ 900) :
  Calls Tryz.prog 190 #[.string s] w (MayD w (wdWith (decR · true) s.data.toList)):=by
 obtain ⟨k,hk⟩ : ∃ k,s.size = k + 2:=⟨s.size - 2,by omega⟩
 have HN:=hide (wdW_new w 83 (-1))
 have q : decide ((s.size : Int) < 2) = false:=decide_eq_false (by omega)
 have hk2 : (s.size : Int) - 2 = (k : Int):=by omega
 have hkz : (0 : Int) ≤ (k : Int):=by omega
 have hks : (k : Int) ≤ (s.size : Int):=by omega
 have hL:=ext_end s k
 have hP:=ext_str s 0 k
 rw [List.drop_zero] at hP
 have htl : s.data.toList.length - 2 = k:=by rw [len_of]; omega
 have HTW:=hide (fun m hl h => wdr_two (decR · true) s.data.toList m hl h)
 have HMO:=hide (fun m hl h => wdr_more (decR · true) s.data.toList m hl h)
 rw [htl] at HTW HMO
 have hlen:=len_of s
 have HD:=hide (fun w => rDec_any (str (s.data.toList.take k)) true w (by rw [str_size,List.length_take]; omega))
 rw [str_list] at HD
 obtain ⟨O,hO⟩ : ∃ O,wdWith (decR · true) s.data.toList = O:=⟨_,rfl⟩
 rw [hO] at HTW HMO ⊢
 generalize s.data.toList.drop k = L at *
 generalize s.data.toList.take k = P at *
 rw [hk] at hL
 have HL:=hide hL
 have HP:=hide hP
 have q' : decide ((k : Int) + 2 < 2) = false:=decide_eq_false (by omega)
 clear hL hP htl hO
 go_enter Tryz.func190,Tryz.ntmps190
 go_wp2_with fail
 obtain ⟨X,hX⟩ : ∃ X,w.heap.size + 1 = X:=⟨_,rfl⟩
 rw [hX] at HN ⊢
 generalize (w.alloc (.cells #[.int .i64 0,.int .i64 0] 83)).alloc (.cells #[.int .i64 0,.int .i64 (-1)] 83) = W0 at *
 go_loopw [5] (fun i wr => ∃ (j : Nat) (m : Int),j ≤ 7 ∧ i = .int .i64 j ∧ WdW w X 0 m wr ∧ Hid (AtEnd L j m)) (fun i _ => 7 - (intOf i).toNat)
 case atStart => exact ⟨0,-1,Nat.zero_le _,rfl,HN.out,hide (Or.inl ⟨rfl,fun i h => absurd h (Nat.not_lt_zero _)⟩)⟩
 case round =>
  obtain ⟨j,m,hj,rfl,hw,HA⟩:=hrel
  have HW:=hide hw
  clear hw HN
  by_cases hlt : j < 7
  ·have hi0 : (0 : Int) ≤ (j : Int):=by omega
   have hi1 : (j : Int) < 7:=by omega
   have HC:=hide (fun w => rDay_any 0 (j : Int) w (by omega) (by omega))
   rw [day_0 j hlt] at HC
   have hl2:=dayWs_len j hlt
   by_cases hq : dayWs.getD j [] = L
   ·have HN : Hid (AtEnd L (j + 1) (j : Int)):=hide (Or.inr ⟨j,by omega,hlt,rfl,hq⟩)
    have e : (dayWs.getD j [] == L) = true:=by rw [tx_eq]; exact decide_eq_true hq
    generalize dayWs.getD j [] = D at *
    have q1:=str_tl D
    have q2:=str_tl L
    have hsL2:=HL.out
    clear hq
    go_wp2_with fail
    refine wp_region_quiet_below (by kernel_rfl) (by kernel_rfl) ?_
    repeat (first | go_big_quiet_step ((first | (go_at_call 78; exact Calls.regrown_of (HC.out _)))) | quiet_step ((first | (go_at_call 78; exact Calls.regrown_of (HC.out _)))))
    refine wpQuiet_nil ?_
    intro _ hw'
    obtain ⟨⟨nq,osq⟩,hw''⟩:=hw'
    subst hw''
    have hq2:=below_regrown wr nq osq
    generalize grow (redrawn wr nq) osq = wr2 at *
    replace HW:=hide (HW.out.keep hq2)
    have x0:=HW.out.x0
    have x1:=HW.out.x1
    have f1:=HW.out.fx1
    clear hq2
    go_wp2_with fail
    go_roundw
    case rel => exact ⟨j + 1,(j : Int),by omega,by go_num,HW.out.set1 _,HN⟩
    case measure => simp [intOf]; omega
   ·have HN : Hid (AtEnd L (j + 1) m):=hide (by
     rcases HA.out with ⟨h1,h2⟩ | ⟨k,h1,h2,h3,h4⟩
     ·refine Or.inl ⟨h1,fun i hi => ?_⟩
      rcases Nat.lt_or_ge i j with g | g
      ·exact h2 i g
      ·obtain rfl : i = j:=by omega
       exact hq
     ·exact Or.inr ⟨k,by omega,h2,h3,h4⟩)
    have e : (dayWs.getD j [] == L) = false:=by rw [tx_eq]; exact decide_eq_false hq
    generalize dayWs.getD j [] = D at *
    have q1:=str_tl D
    have q2:=str_tl L
    have hsL2:=HL.out
    clear hq
    go_wp2_with fail
    refine wp_region_quiet_below (by kernel_rfl) (by kernel_rfl) ?_
    repeat (first | go_big_quiet_step ((first | (go_at_call 78; exact Calls.regrown_of (HC.out _)))) | quiet_step ((first | (go_at_call 78; exact Calls.regrown_of (HC.out _)))))
    refine wpQuiet_nil ?_
    intro _ hw'
    obtain ⟨⟨nq,osq⟩,hw''⟩:=hw'
    subst hw''
    have hq2:=below_regrown wr nq osq
    generalize grow (redrawn wr nq) osq = wr2 at *
    replace HW:=hide (HW.out.keep hq2)
    clear hq2
    go_wp2_with fail
    go_roundw
    case rel => exact ⟨j + 1,m,by omega,by go_num,HW.out,HN⟩
    case measure => simp [intOf]; omega
  ·obtain rfl : j = 7:=by omega
   have hix:=HA.out.ix
   have hbd:=HA.out.bd
   have x0:=HW.out.x0
   have x1:=HW.out.x1
   have r0:=HW.out.r0
   have r1:=HW.out.r1
   have fr0:=HW.out.fr0
   have fr1:=HW.out.fr1
   have fx0:=HW.out.fx0
   have gt:=HW.out.gt
   by_cases h2 : k = 0
   ·have HF:=hide (HTW.out m (by omega) hix)
    have g2 : decide ((2 : Int) < (k : Int) + 2) = false:=decide_eq_false (by omega)
    clear hix h2
    go_wp2_with fail
    go_region_held3 (fun w' => w'.cell? ⟨X,0,none⟩ = some (.int .i64 0) ∧ w'.cell? ⟨X,1,none⟩ = some (.int .i64 m)) (first | with_reducible exact ⟨cell_keep (start _).drew x0,cell_keep (start _).drew x1⟩ | with_reducible exact ⟨wd_far gt x0,wd_far gt x1⟩ | with_reducible exact ⟨cell_keep (start _).drew (wd_far gt x0),cell_keep (start _).drew (wd_far gt x1)⟩ | with_reducible exact ⟨wd_far gt (by assumption),wd_far gt (by assumption)⟩ | with_reducible exact ⟨cell_keep (start _).drew (by assumption),cell_keep (start _).drew (by assumption)⟩) (fail)
    go_wp2_with fail
    refine ret_gen (ResW w 0 m) (HW.out.keep (start _).drew |>.res 0 m) ?_
    rintro WF ⟨c0,c1,hb⟩
    exact bodyPost_ret (v:=.tuple #[.agg #[.int .i64 0,.int .i64 m],.bool (decide (0 ≤ m))]) (by simp [results,Tryz.results190,go_sem,c0,c1]) rfl (mayD_if HF.out hb)
   ·have hmo:=HMO.out m (by omega) hix
    have g2 : decide ((2 : Int) < (k : Int) + 2) = true:=decide_eq_true (by omega)
    have hsP2:=HP.out
    clear hix h2
    cases hd : decR P true with
    | none =>
     rw [hd] at hmo
     rw [decA_none hd] at HD
     have HF : Hid (O = none):=hide hmo
     clear hmo hd
     go_wp2_with fail
     refine (HD.out _).mono ?_
     rintro e w2 ⟨rfl,rfl⟩
     go_wp2_with fail
     refine ret_gen (ResW w 0 m) (HW.out.res 0 m) ?_
     rintro WF ⟨c0,c1,hb⟩
     exact bodyPost_ret (v:=.tuple #[.agg #[.int .i64 0,.int .i64 m],.bool false]) (by simp [results,Tryz.results190,go_sem,c0,c1]) rfl ⟨hb,0,m,fun x hx => (by rw [HF.out] at hx; cases hx),by rw [HF.out]; rfl⟩
    | some n =>
     rw [hd] at hmo
     rw [decA_some hd] at HD
     simp only at hmo
     clear hd
     by_cases hn : n = 0
     ·rw [if_pos hn] at hmo
      have HF : Hid (O = none):=hide hmo
      have qn : (n == 0) = true:=beq_iff_eq.2 hn
      clear hmo hn
      go_wp2_with fail
      refine (HD.out _).mono ?_
      rintro e w2 ⟨rfl,rfl⟩
      go_wp2_with fail
      refine ret_gen (ResW w 0 m) (HW.out.res 0 m) ?_
      rintro WF ⟨c0,c1,hb⟩
      exact bodyPost_ret (v:=.tuple #[.agg #[.int .i64 0,.int .i64 m],.bool false]) (by simp [results,Tryz.results190,go_sem,c0,c1]) rfl ⟨hb,0,m,fun x hx => (by rw [HF.out] at hx; cases hx),by rw [HF.out]; rfl⟩
     ·rw [if_neg hn] at hmo
      have HF:=hide hmo
      have qn : (n == 0) = false:=beq_eq_false_iff_ne.2 hn
      clear hmo hn
      go_wp2_with fail
      refine (HD.out _).mono ?_
      rintro e w2 ⟨rfl,rfl⟩
      go_upto_region 14 with fail
      have hW:=HW.out.set0 n
      have x0:=hW.x0
      have x1:=hW.x1
      have fr0:=hW.fr0
      have fr1:=hW.fr1
      have r0:=hW.r0
      have r1:=hW.r1
      replace HW:=hide hW
      generalize wr.setCell ⟨X,0,none⟩ (.int .i64 n) = w2 at *
      clear hW
      go_region_held3 (fun w' => w'.cell? ⟨X,0,none⟩ = some (.int .i64 n) ∧ w'.cell? ⟨X,1,none⟩ = some (.int .i64 m)) (first | with_reducible exact ⟨cell_keep (start _).drew x0,cell_keep (start _).drew x1⟩ | with_reducible exact ⟨wd_far gt x0,wd_far gt x1⟩ | with_reducible exact ⟨cell_keep (start _).drew (wd_far gt x0),cell_keep (start _).drew (wd_far gt x1)⟩ | with_reducible exact ⟨wd_far gt (by assumption),wd_far gt (by assumption)⟩ | with_reducible exact ⟨cell_keep (start _).drew (by assumption),cell_keep (start _).drew (by assumption)⟩) (fail)
      go_wp2_with fail
      refine ret_gen (ResW w n m) (HW.out.keep (start _).drew |>.res n m) ?_
      rintro WF ⟨c0,c1,hb⟩
      exact bodyPost_ret (v:=.tuple #[.agg #[.int .i64 n,.int .i64 m],.bool (decide (0 ≤ m))]) (by simp [results,Tryz.results190,go_sem,c0,c1]) rfl (mayD_if HF.out hb)

theorem rwday_any (s : ByteArray) (w : World) (hs : s.size ≤ 900) :
  Calls Tryz.prog 190 #[.string s] w (MayD w (wdWith (decR · true) s.data.toList)):=by
 by_cases h : s.size < 2
 ·exact rwday_short s w h
 ·exact rwday_long s w (by omega) hs

end Go.Proofs.YtgdjeddelcfgeaaGreatDoor
namespace Go.Proofs.YtgdjeddelcfgeaaGreatDoor
open Go.RowKit Rul Rt Go.Sort

def DaysA (w : World) (o : Option (List Wd)) (e : Ending) (w' : World) : Prop:=Below w.heap.size w w' ∧
 ((o = none ∧ e = .returned (.tuple #[.slice none 0 0,.bool false])) ∨ ∃ l v,o = some l ∧ e = .returned (.tuple #[v,.bool true]) ∧ OwnD w' w.heap.size v l)
theorem OwnD.low2 {w : World} {B B2 : Nat} {v : Value} {l : List Wd} (h : OwnD w B v l) (hb : B2 ≤ B) : OwnD w B2 v l:=by
 refine ⟨h.1,?_⟩
 rcases h.2 with g | ⟨g,cap,cur,e,hg,r⟩
 ·exact Or.inl g
 ·exact Or.inr ⟨g,cap,cur,e,Nat.le_trans hb hg,r⟩
theorem wd_ne {a b : Wd} (h : ¬ (a.1 = b.1 ∧ a.2 = b.2)) : a ≠ b:=fun e => h (by rw [e]; exact ⟨rfl,rfl⟩)

set_option maxRecDepth 100000 in
set_option maxHeartbeats 8000000 in
theorem rwdays_any (s : ByteArray) (w : World) (hs : s.size ≤ 900) :
  Calls Tryz.prog 156 #[.string s] w (DaysA w (listR wdLt (wdWith (decR · true)) s.data.toList)):=by
 have hcl:=cutAt_len 44 s.data.toList
 have hcs:=cutAt_sub 44 s.data.toList
 rw [len_of] at hcl hcs
 have HC:=hide (fun w => rCut_any s 44 44 w rfl (by omega))
 have HF : Hid (listR wdLt (wdWith (decR · true)) s.data.toList = insAll wdLt (wdWith (decR · true)) (cutAt 44 s.data.toList) []):=hide rfl
 rw [HF.out]
 generalize cutAt 44 s.data.toList = ps at *
 clear HF
 go_enter Tryz.func156,Tryz.ntmps156
 go_wp2_with fail
 refine (HC.out _).mono ?_
 rintro e w1 ⟨v,rfl,hown,hb1⟩
 obtain ⟨A,cap,rfl,hrow,hcap⟩:=OwnS.row hown
 have HR:=hide hrow
 have HB1:=hide hb1
 clear hown hrow hb1
 go_wp2_with fail
 go_loopw [5,6,7,8,9,10,11] (fun v i _ _ _ _ _ wr => ∃ (j : Nat) (k : List Wd),j ≤ ps.length ∧ i = .int .i64 j ∧ OwnD wr w.heap.size v k ∧ Hid (insAll wdLt (wdWith (decR · true)) (ps.take j) [] = some k) ∧ Below w1.heap.size w1 wr) (fun _ i _ _ _ _ _ _ => ps.length - (intOf i).toNat)
 case atStart => exact ⟨0,[],Nat.zero_le _,rfl,ownD_nil _ _,hide rfl,start _⟩
 case round =>
  obtain ⟨j,k,hj,rfl,hown,HK,hbw⟩:=hrel
  have HO:=hide hown
  have HBR:=hide hbw
  have HBW:=hide (andthen HB1.out hbw)
  clear hown hbw
  by_cases hlt : j < ps.length
  ·obtain ⟨b1,o1,rfl,hb1,hc1⟩:=HR.out (by intro h0; rw [h0] at hlt; exact absurd hlt (Nat.not_lt_zero _))
   obtain ⟨T,hm⟩ : ∃ T,ps[j] = T:=⟨_,rfl⟩
   have p1 : wr.cell? ⟨b1,o1 + j,none⟩ = some (.string (str T)):=by rw [← hm]; exact (HBR.out.cell (p:=⟨b1,_,none⟩) hb1).trans (hc1 j hlt)
   have hi0 : (0 : Int) ≤ (j : Int):=by omega
   have hi1 : (j : Int) < (ps.length : Int):=by omega
   have hT : (str T).size ≤ 900:=by rw [str_size,← hm]; exact Nat.le_trans (hcs _ (List.getElem_mem hlt)) (by omega)
   have HD:=hide (fun w => rwday_any (str T) w hT)
   have hkl : k.length ≤ 1000:=by have:=insAll_len _ _ _ HK.out; rw [List.length_take,List.length_nil] at this; omega
   rw [str_list] at HD
   clear hc1
   go_wp2_with fail
   refine (HD.out _).mono ?_
   rintro e w2 ⟨hb2,n,d,hnd,rfl⟩
   replace HBR:=hide (andthen HBR.out hb2)
   replace HBW:=hide (andthen HBW.out hb2)
   replace HO:=hide (HO.out.keep hb2)
   clear hb2 p1
   cases hd : wdWith (decR · true) T with
   | none =>
    rw [hd] at hnd
    have HN : Hid (insAll wdLt (wdWith (decR · true)) ps [] = none):=hide (insAll_at_none hlt HK.out (by rw [hm]; simp only [hd]))
    simp only [Option.isSome_none]
    replace HBW:=hide (more HBW.out (.cells #[.int .i64 n,.int .i64 d] 83))
    clear hm hd hnd
    go_wp2_with fail
    go_ret2
    exact ⟨HBW.out,Or.inl ⟨HN.out,rfl⟩⟩
   | some x =>
    rw [hd] at hnd
    have hx:=hnd x rfl
    subst hx
    simp only [Option.isSome_some]
    have HNX : Hid (∀ k2,putO wdLt (n,d) k = k2 → (k2 = none → insAll wdLt (wdWith (decR · true)) ps [] = none) ∧ (∀ k3,k2 = some k3 → insAll wdLt (wdWith (decR · true)) (ps.take (j + 1)) [] = some k3)):=hide (fun k2 h => by
     subst h
     refine ⟨fun hn => insAll_at_none hlt HK.out (by rw [hm]; simp only [hd]; exact hn),fun k3 h3 => ?_⟩
     rw [List.take_succ_eq_append_getElem hlt,insAll_snoc _ _ _ HK.out,hm]; simp only [hd]; exact h3)
    obtain ⟨X,hX⟩ : ∃ X,w2.heap.size = X:=⟨_,rfl⟩
    have hz2 : w.heap.size ≤ X:=by rw [← hX]; exact HBW.out.size
    have x0 : (w2.alloc (.cells #[.int .i64 n,.int .i64 d] 83)).cell? ⟨X,0,none⟩ = some (.int .i64 n):=by subst hX; rw [World.cell?_alloc_at _ _ _ _ rfl]; rfl
    have x1 : (w2.alloc (.cells #[.int .i64 n,.int .i64 d] 83)).cell? ⟨X,1,none⟩ = some (.int .i64 d):=by subst hX; rw [World.cell?_alloc_at _ _ _ _ rfl]; rfl
    have hbx:=more (start w2) (.cells #[.int .i64 n,.int .i64 d] 83)
    replace HBR:=hide (andthen HBR.out hbx)
    replace HBW:=hide (andthen HBW.out hbx)
    replace HO:=hide (HO.out.keep hbx)
    have HX:=hide (And.intro x0 x1)
    obtain ⟨A2,cap2,rfl,hrow2⟩:=OwnD.row HO.out
    have HRW:=hide hrow2
    clear hm hd hnd hbx hrow2 x0 x1 HD
    go_wp2_with fail
    generalize w2.alloc (.cells #[.int .i64 n,.int .i64 d] 83) = W5 at *
    have hXlt : X < W5.heap.size:=block_lt_of_cell HX.out.1
    go_loopw [9,10,11] (fun v b i wr => ∃ (q : Nat) (out : List Wd) (f : Bool),q ≤ k.length ∧ i = .int .i64 q ∧ b = .bool f ∧ OwnD wr W5.heap.size v out ∧ Hid (PutAt wdLt (n,d) k q out f) ∧ Hid (out.length ≤ q + 1) ∧ Below W5.heap.size W5 wr) (fun _ _ i _ => k.length - (intOf i).toNat)
    case atStart => exact ⟨0,[],false,Nat.zero_le _,rfl,rfl,ownD_nil _ _,hide (PutAt.zero wdLt (n,d) k),hide (Nat.zero_le _),start _⟩
    case round =>
     obtain ⟨q,out,f,hq,rfl,rfl,hown,HP,HL,hbq⟩:=hrel
     have HOQ:=hide hown
     have HBQ:=hide hbq
     clear hown hbq
     by_cases hqt : q < k.length
     ·obtain ⟨b2,o2,rfl,hb2,hc2⟩:=HRW.out (by intro h0; rw [h0] at hqt; exact absurd hqt (Nat.not_lt_zero _))
      obtain ⟨m,hm⟩ : ∃ m,k[q] = m:=⟨_,rfl⟩
      obtain ⟨y1,y2⟩:=m
      have hc:=hc2 q hqt
      rw [hm] at hc
      simp only at hc
      have HPC:=hide hc
      have hi2 : (0 : Int) ≤ (q : Int):=by omega
      have hi3 : (q : Int) < (k.length : Int):=by omega
      clear hc hc2
      have p0 : wr.cell? ⟨b2,o2 + q * 2,none⟩ = some (.int .i64 y1):=((HBQ.out).cell (p:=⟨b2,o2 + q * 2,none⟩) hb2).trans HPC.out.1
      have p1 : wr.cell? ⟨b2,o2 + q * 2 + 1,none⟩ = some (.int .i64 y2):=((HBQ.out).cell (p:=⟨b2,o2 + q * 2 + 1,none⟩) hb2).trans HPC.out.2
      have x0 : wr.cell? ⟨X,0,none⟩ = some (.int .i64 n):=((HBQ.out).cell (p:=⟨X,0,none⟩) hXlt).trans HX.out.1
      have x1 : wr.cell? ⟨X,1,none⟩ = some (.int .i64 d):=((HBQ.out).cell (p:=⟨X,1,none⟩) hXlt).trans HX.out.2
      by_cases he1 : y1 = n
      ·by_cases he2 : y2 = d
       ·have e1 : (y1 == n) = true:=beq_iff_eq.2 he1
        have e2 : (y2 == d) = true:=beq_iff_eq.2 he2
        have HN : Hid (putO wdLt (n,d) k = none):=hide (putO_no (by have h:=List.getElem_mem hqt; rw [hm,he1,he2] at h; exact h))
        have HNN:=hide ((HNX.out _ rfl).1 HN.out)
        clear hm he1 he2
        go_wp2_with fail
        go_quiet (fail)
        go_wp2_with fail
        go_ret2
        exact ⟨below_drawn (andthen HBW.out HBQ.out) _,Or.inl ⟨HNN.out,rfl⟩⟩
       ·have e1 : (y1 == n) = true:=beq_iff_eq.2 he1
        have e2 : (y2 == d) = false:=beq_eq_false_iff_ne.2 he2
        have hne : k[q] ≠ (n,d):=by rw [hm]; exact wd_ne (fun h => he2 h.2)
        clear he1 he2
        go_wp2_with fail
        go_quiet (fail)
        have HB2:=hide (below_drawn HBQ.out nq)
        have HO2:=hide (HOQ.out.keep (below_drawn (start wr) nq))
        generalize wr.drewN nq = wq2 at *
        clear p0 p1 x0 x1
        have p0 : wq2.cell? ⟨b2,o2 + q * 2,none⟩ = some (.int .i64 y1):=((HB2.out).cell (p:=⟨b2,o2 + q * 2,none⟩) hb2).trans HPC.out.1
        have p1 : wq2.cell? ⟨b2,o2 + q * 2 + 1,none⟩ = some (.int .i64 y2):=((HB2.out).cell (p:=⟨b2,o2 + q * 2 + 1,none⟩) hb2).trans HPC.out.2
        have x0 : wq2.cell? ⟨X,0,none⟩ = some (.int .i64 n):=((HB2.out).cell (p:=⟨X,0,none⟩) hXlt).trans HX.out.1
        have x1 : wq2.cell? ⟨X,1,none⟩ = some (.int .i64 d):=((HB2.out).cell (p:=⟨X,1,none⟩) hXlt).trans HX.out.2
        go_wp2_with fail
        have f0:=fun d os => cell_regrown p0 d os
        have f1:=fun d os => cell_regrown p1 d os
        have f2:=fun d os => cell_regrown x0 d os
        have f3:=fun d os => cell_regrown x1 d os
        clear p0 p1 x0 x1
        cases f with
        | true =>
         have HN : Hid (PutAt wdLt (n,d) k (q + 1) (out ++ [(y1,y2)]) true):=hide (by have:=HP.out.past hqt hne; rwa [hm] at this)
         refine wp_region_quiet_below (by kernel_rfl) (by kernel_rfl) ?_
         repeat (first | go_big_quiet_step ((first | fail)) | quiet_step ((first | fail)))
         refine wpQuiet_nil ?_
         intro _ hw'
         obtain ⟨⟨nq,osq⟩,hw''⟩:=hw'
         subst hw''
         have hq2:=below_regrown wq2 nq osq
         generalize grow (redrawn wq2 nq) osq = wq3 at *
         replace HB2:=hide (andthen HB2.out hq2)
         replace HO2:=hide (HO2.out.keep hq2)
         clear hq2 f0 f1 f2 f3
         have p0 : wq3.cell? ⟨b2,o2 + q * 2,none⟩ = some (.int .i64 y1):=((HB2.out).cell (p:=⟨b2,o2 + q * 2,none⟩) hb2).trans HPC.out.1
         have p1 : wq3.cell? ⟨b2,o2 + q * 2 + 1,none⟩ = some (.int .i64 y2):=((HB2.out).cell (p:=⟨b2,o2 + q * 2 + 1,none⟩) hb2).trans HPC.out.2
         have x0 : wq3.cell? ⟨X,0,none⟩ = some (.int .i64 n):=((HB2.out).cell (p:=⟨X,0,none⟩) hXlt).trans HX.out.1
         have x1 : wq3.cell? ⟨X,1,none⟩ = some (.int .i64 d):=((HB2.out).cell (p:=⟨X,1,none⟩) hXlt).trans HX.out.2
         have hz:=HB2.out.size
         have hown:=HO2.out
         have hln : out.length ≤ 1000000:=by have:=HL.out; omega
         clear hm hne
         go_wp2_with (at_builtin; refine wp_oneD (l:=out) (p:=(y1,y2)) rfl _ _ rfl rfl rfl rfl hown hz hln ?_; intro v3 w3 hown3 hb3)
         have HO3:=hide hown3
         have HB3:=hide (HB2.out.trans hb3)
         clear hown hown3 hb3 hz hln
         go_wp2_with fail
         go_roundw
         case rel => exact ⟨q + 1,_,true,by omega,by go_num,rfl,HO3.out,HN,hide (by have:=HL.out; rw [List.length_append]; simp; omega),HB3.out⟩
         case measure => simp [intOf]; omega
        | false =>
         have HLS:=hide (fun w => R.less_any n d y1 y2 w)
         cases hL : wdLt (n,d) (y1,y2) with
         | true =>
          have HN : Hid (PutAt wdLt (n,d) k (q + 1) ((out ++ [(n,d)]) ++ [(y1,y2)]) true):=hide (by have:=HP.out.ahead hqt hne (by rw [hm]; exact hL); rwa [hm] at this)
          have HLO : Hid (out.length ≤ q):=hide (by
           rcases HP.out.rest with ⟨_,e,_⟩ | ⟨e,_⟩
           ·rw [e,List.length_take]; omega
           ·cases e)
          rw [hL] at HLS
          clear hL
          refine wp_region_quiet_below (by kernel_rfl) (by kernel_rfl) ?_
          repeat (first | go_big_quiet_step ((first | (go_at_call 98; exact Calls.regrown_of (HLS.out _)))) | quiet_step ((first | (go_at_call 98; exact Calls.regrown_of (HLS.out _)))))
          refine wpQuiet_nil ?_
          intro _ hw'
          obtain ⟨⟨nq,osq⟩,hw''⟩:=hw'
          subst hw''
          have hq2:=below_regrown wq2 nq osq
          generalize grow (redrawn wq2 nq) osq = wq3 at *
          replace HB2:=hide (andthen HB2.out hq2)
          replace HO2:=hide (HO2.out.keep hq2)
          clear hq2 f0 f1 f2 f3
          have p0 : wq3.cell? ⟨b2,o2 + q * 2,none⟩ = some (.int .i64 y1):=((HB2.out).cell (p:=⟨b2,o2 + q * 2,none⟩) hb2).trans HPC.out.1
          have p1 : wq3.cell? ⟨b2,o2 + q * 2 + 1,none⟩ = some (.int .i64 y2):=((HB2.out).cell (p:=⟨b2,o2 + q * 2 + 1,none⟩) hb2).trans HPC.out.2
          have x0 : wq3.cell? ⟨X,0,none⟩ = some (.int .i64 n):=((HB2.out).cell (p:=⟨X,0,none⟩) hXlt).trans HX.out.1
          have x1 : wq3.cell? ⟨X,1,none⟩ = some (.int .i64 d):=((HB2.out).cell (p:=⟨X,1,none⟩) hXlt).trans HX.out.2
          have hz:=HB2.out.size
          have hown:=HO2.out
          have hln : out.length ≤ 1000000:=by have:=HL.out; omega
          clear hm hne
          go_upto_region 19 with (at_builtin; refine wp_oneD (l:=out) (p:=(n,d)) rfl _ _ rfl rfl rfl rfl hown hz hln ?_; intro v2 w2 hown2 hb2')
          replace HB2:=hide (HB2.out.trans hb2')
          replace HO2:=hide hown2
          clear hown hown2 hb2' hz hln p0 p1 x0 x1
          have p0 : w2.cell? ⟨b2,o2 + q * 2,none⟩ = some (.int .i64 y1):=((HB2.out).cell (p:=⟨b2,o2 + q * 2,none⟩) hb2).trans HPC.out.1
          have p1 : w2.cell? ⟨b2,o2 + q * 2 + 1,none⟩ = some (.int .i64 y2):=((HB2.out).cell (p:=⟨b2,o2 + q * 2 + 1,none⟩) hb2).trans HPC.out.2
          have x0 : w2.cell? ⟨X,0,none⟩ = some (.int .i64 n):=((HB2.out).cell (p:=⟨X,0,none⟩) hXlt).trans HX.out.1
          have x1 : w2.cell? ⟨X,1,none⟩ = some (.int .i64 d):=((HB2.out).cell (p:=⟨X,1,none⟩) hXlt).trans HX.out.2
          have hz:=HB2.out.size
          have hown:=HO2.out
          have hln : (out ++ [(n,d)]).length ≤ 1000000:=by have:=HLO.out; rw [List.length_append]; simp; omega
          go_wp2_with (at_builtin; refine wp_oneD (l:=out ++ [(n,d)]) (p:=(y1,y2)) rfl _ _ rfl rfl rfl rfl hown hz hln ?_; intro v3 w3 hown3 hb3)
          have HO3:=hide hown3
          have HB3:=hide (HB2.out.trans hb3)
          clear hown hown3 hb3 hz hln
          go_wp2_with fail
          go_roundw
          case rel => exact ⟨q + 1,_,true,by omega,by go_num,rfl,HO3.out,HN,hide (by have:=HLO.out; rw [List.length_append,List.length_append]; simp; omega),HB3.out⟩
          case measure => simp [intOf]; omega
         | false =>
          have HN : Hid (PutAt wdLt (n,d) k (q + 1) (out ++ [(y1,y2)]) false):=hide (by have:=HP.out.skip hqt hne (by rw [hm]; exact hL); rwa [hm] at this)
          rw [hL] at HLS
          clear hL
          refine wp_region_quiet_below (by kernel_rfl) (by kernel_rfl) ?_
          repeat (first | go_big_quiet_step ((first | (go_at_call 98; exact Calls.regrown_of (HLS.out _)))) | quiet_step ((first | (go_at_call 98; exact Calls.regrown_of (HLS.out _)))))
          refine wpQuiet_nil ?_
          intro _ hw'
          obtain ⟨⟨nq,osq⟩,hw''⟩:=hw'
          subst hw''
          have hq2:=below_regrown wq2 nq osq
          generalize grow (redrawn wq2 nq) osq = wq3 at *
          replace HB2:=hide (andthen HB2.out hq2)
          replace HO2:=hide (HO2.out.keep hq2)
          clear hq2 f0 f1 f2 f3
          have p0 : wq3.cell? ⟨b2,o2 + q * 2,none⟩ = some (.int .i64 y1):=((HB2.out).cell (p:=⟨b2,o2 + q * 2,none⟩) hb2).trans HPC.out.1
          have p1 : wq3.cell? ⟨b2,o2 + q * 2 + 1,none⟩ = some (.int .i64 y2):=((HB2.out).cell (p:=⟨b2,o2 + q * 2 + 1,none⟩) hb2).trans HPC.out.2
          have x0 : wq3.cell? ⟨X,0,none⟩ = some (.int .i64 n):=((HB2.out).cell (p:=⟨X,0,none⟩) hXlt).trans HX.out.1
          have x1 : wq3.cell? ⟨X,1,none⟩ = some (.int .i64 d):=((HB2.out).cell (p:=⟨X,1,none⟩) hXlt).trans HX.out.2
          have hz:=HB2.out.size
          have hown:=HO2.out
          have hln : out.length ≤ 1000000:=by have:=HL.out; omega
          clear hm hne
          go_wp2_with (at_builtin; refine wp_oneD (l:=out) (p:=(y1,y2)) rfl _ _ rfl rfl rfl rfl hown hz hln ?_; intro v3 w3 hown3 hb3)
          have HO3:=hide hown3
          have HB3:=hide (HB2.out.trans hb3)
          clear hown hown3 hb3 hz hln
          go_wp2_with fail
          go_roundw
          case rel => exact ⟨q + 1,_,false,by omega,by go_num,rfl,HO3.out,HN,hide (by have:=HL.out; rw [List.length_append]; simp; omega),HB3.out⟩
          case measure => simp [intOf]; omega
      ·have e1 : (y1 == n) = false:=beq_eq_false_iff_ne.2 he1
       have hne : k[q] ≠ (n,d):=by rw [hm]; exact wd_ne (fun h => he1 h.1)
       clear he1
       go_wp2_with fail
       go_quiet (fail)
       have HB2:=hide (below_drawn HBQ.out nq)
       have HO2:=hide (HOQ.out.keep (below_drawn (start wr) nq))
       generalize wr.drewN nq = wq2 at *
       clear p0 p1 x0 x1
       have p0 : wq2.cell? ⟨b2,o2 + q * 2,none⟩ = some (.int .i64 y1):=((HB2.out).cell (p:=⟨b2,o2 + q * 2,none⟩) hb2).trans HPC.out.1
       have p1 : wq2.cell? ⟨b2,o2 + q * 2 + 1,none⟩ = some (.int .i64 y2):=((HB2.out).cell (p:=⟨b2,o2 + q * 2 + 1,none⟩) hb2).trans HPC.out.2
       have x0 : wq2.cell? ⟨X,0,none⟩ = some (.int .i64 n):=((HB2.out).cell (p:=⟨X,0,none⟩) hXlt).trans HX.out.1
       have x1 : wq2.cell? ⟨X,1,none⟩ = some (.int .i64 d):=((HB2.out).cell (p:=⟨X,1,none⟩) hXlt).trans HX.out.2
       go_wp2_with fail
       have f0:=fun d os => cell_regrown p0 d os
       have f1:=fun d os => cell_regrown p1 d os
       have f2:=fun d os => cell_regrown x0 d os
       have f3:=fun d os => cell_regrown x1 d os
       clear p0 p1 x0 x1
       cases f with
       | true =>
        have HN : Hid (PutAt wdLt (n,d) k (q + 1) (out ++ [(y1,y2)]) true):=hide (by have:=HP.out.past hqt hne; rwa [hm] at this)
        refine wp_region_quiet_below (by kernel_rfl) (by kernel_rfl) ?_
        repeat (first | go_big_quiet_step ((first | fail)) | quiet_step ((first | fail)))
        refine wpQuiet_nil ?_
        intro _ hw'
        obtain ⟨⟨nq,osq⟩,hw''⟩:=hw'
        subst hw''
        have hq2:=below_regrown wq2 nq osq
        generalize grow (redrawn wq2 nq) osq = wq3 at *
        replace HB2:=hide (andthen HB2.out hq2)
        replace HO2:=hide (HO2.out.keep hq2)
        clear hq2 f0 f1 f2 f3
        have p0 : wq3.cell? ⟨b2,o2 + q * 2,none⟩ = some (.int .i64 y1):=((HB2.out).cell (p:=⟨b2,o2 + q * 2,none⟩) hb2).trans HPC.out.1
        have p1 : wq3.cell? ⟨b2,o2 + q * 2 + 1,none⟩ = some (.int .i64 y2):=((HB2.out).cell (p:=⟨b2,o2 + q * 2 + 1,none⟩) hb2).trans HPC.out.2
        have x0 : wq3.cell? ⟨X,0,none⟩ = some (.int .i64 n):=((HB2.out).cell (p:=⟨X,0,none⟩) hXlt).trans HX.out.1
        have x1 : wq3.cell? ⟨X,1,none⟩ = some (.int .i64 d):=((HB2.out).cell (p:=⟨X,1,none⟩) hXlt).trans HX.out.2
        have hz:=HB2.out.size
        have hown:=HO2.out
        have hln : out.length ≤ 1000000:=by have:=HL.out; omega
        clear hm hne
        go_wp2_with (at_builtin; refine wp_oneD (l:=out) (p:=(y1,y2)) rfl _ _ rfl rfl rfl rfl hown hz hln ?_; intro v3 w3 hown3 hb3)
        have HO3:=hide hown3
        have HB3:=hide (HB2.out.trans hb3)
        clear hown hown3 hb3 hz hln
        go_wp2_with fail
        go_roundw
        case rel => exact ⟨q + 1,_,true,by omega,by go_num,rfl,HO3.out,HN,hide (by have:=HL.out; rw [List.length_append]; simp; omega),HB3.out⟩
        case measure => simp [intOf]; omega
       | false =>
        have HLS:=hide (fun w => R.less_any n d y1 y2 w)
        cases hL : wdLt (n,d) (y1,y2) with
        | true =>
         have HN : Hid (PutAt wdLt (n,d) k (q + 1) ((out ++ [(n,d)]) ++ [(y1,y2)]) true):=hide (by have:=HP.out.ahead hqt hne (by rw [hm]; exact hL); rwa [hm] at this)
         have HLO : Hid (out.length ≤ q):=hide (by
          rcases HP.out.rest with ⟨_,e,_⟩ | ⟨e,_⟩
          ·rw [e,List.length_take]; omega
          ·cases e)
         rw [hL] at HLS
         clear hL
         refine wp_region_quiet_below (by kernel_rfl) (by kernel_rfl) ?_
         repeat (first | go_big_quiet_step ((first | (go_at_call 98; exact Calls.regrown_of (HLS.out _)))) | quiet_step ((first | (go_at_call 98; exact Calls.regrown_of (HLS.out _)))))
         refine wpQuiet_nil ?_
         intro _ hw'
         obtain ⟨⟨nq,osq⟩,hw''⟩:=hw'
         subst hw''
         have hq2:=below_regrown wq2 nq osq
         generalize grow (redrawn wq2 nq) osq = wq3 at *
         replace HB2:=hide (andthen HB2.out hq2)
         replace HO2:=hide (HO2.out.keep hq2)
         clear hq2 f0 f1 f2 f3
         have p0 : wq3.cell? ⟨b2,o2 + q * 2,none⟩ = some (.int .i64 y1):=((HB2.out).cell (p:=⟨b2,o2 + q * 2,none⟩) hb2).trans HPC.out.1
         have p1 : wq3.cell? ⟨b2,o2 + q * 2 + 1,none⟩ = some (.int .i64 y2):=((HB2.out).cell (p:=⟨b2,o2 + q * 2 + 1,none⟩) hb2).trans HPC.out.2
         have x0 : wq3.cell? ⟨X,0,none⟩ = some (.int .i64 n):=((HB2.out).cell (p:=⟨X,0,none⟩) hXlt).trans HX.out.1
         have x1 : wq3.cell? ⟨X,1,none⟩ = some (.int .i64 d):=((HB2.out).cell (p:=⟨X,1,none⟩) hXlt).trans HX.out.2
         have hz:=HB2.out.size
         have hown:=HO2.out
         have hln : out.length ≤ 1000000:=by have:=HL.out; omega
         clear hm hne
         go_upto_region 19 with (at_builtin; refine wp_oneD (l:=out) (p:=(n,d)) rfl _ _ rfl rfl rfl rfl hown hz hln ?_; intro v2 w2 hown2 hb2')
         replace HB2:=hide (HB2.out.trans hb2')
         replace HO2:=hide hown2
         clear hown hown2 hb2' hz hln p0 p1 x0 x1
         have p0 : w2.cell? ⟨b2,o2 + q * 2,none⟩ = some (.int .i64 y1):=((HB2.out).cell (p:=⟨b2,o2 + q * 2,none⟩) hb2).trans HPC.out.1
         have p1 : w2.cell? ⟨b2,o2 + q * 2 + 1,none⟩ = some (.int .i64 y2):=((HB2.out).cell (p:=⟨b2,o2 + q * 2 + 1,none⟩) hb2).trans HPC.out.2
         have x0 : w2.cell? ⟨X,0,none⟩ = some (.int .i64 n):=((HB2.out).cell (p:=⟨X,0,none⟩) hXlt).trans HX.out.1
         have x1 : w2.cell? ⟨X,1,none⟩ = some (.int .i64 d):=((HB2.out).cell (p:=⟨X,1,none⟩) hXlt).trans HX.out.2
         have hz:=HB2.out.size
         have hown:=HO2.out
         have hln : (out ++ [(n,d)]).length ≤ 1000000:=by have:=HLO.out; rw [List.length_append]; simp; omega
         go_wp2_with (at_builtin; refine wp_oneD (l:=out ++ [(n,d)]) (p:=(y1,y2)) rfl _ _ rfl rfl rfl rfl hown hz hln ?_; intro v3 w3 hown3 hb3)
         have HO3:=hide hown3
         have HB3:=hide (HB2.out.trans hb3)
         clear hown hown3 hb3 hz hln
         go_wp2_with fail
         go_roundw
         case rel => exact ⟨q + 1,_,true,by omega,by go_num,rfl,HO3.out,HN,hide (by have:=HLO.out; rw [List.length_append,List.length_append]; simp; omega),HB3.out⟩
         case measure => simp [intOf]; omega
        | false =>
         have HN : Hid (PutAt wdLt (n,d) k (q + 1) (out ++ [(y1,y2)]) false):=hide (by have:=HP.out.skip hqt hne (by rw [hm]; exact hL); rwa [hm] at this)
         rw [hL] at HLS
         clear hL
         refine wp_region_quiet_below (by kernel_rfl) (by kernel_rfl) ?_
         repeat (first | go_big_quiet_step ((first | (go_at_call 98; exact Calls.regrown_of (HLS.out _)))) | quiet_step ((first | (go_at_call 98; exact Calls.regrown_of (HLS.out _)))))
         refine wpQuiet_nil ?_
         intro _ hw'
         obtain ⟨⟨nq,osq⟩,hw''⟩:=hw'
         subst hw''
         have hq2:=below_regrown wq2 nq osq
         generalize grow (redrawn wq2 nq) osq = wq3 at *
         replace HB2:=hide (andthen HB2.out hq2)
         replace HO2:=hide (HO2.out.keep hq2)
         clear hq2 f0 f1 f2 f3
         have p0 : wq3.cell? ⟨b2,o2 + q * 2,none⟩ = some (.int .i64 y1):=((HB2.out).cell (p:=⟨b2,o2 + q * 2,none⟩) hb2).trans HPC.out.1
         have p1 : wq3.cell? ⟨b2,o2 + q * 2 + 1,none⟩ = some (.int .i64 y2):=((HB2.out).cell (p:=⟨b2,o2 + q * 2 + 1,none⟩) hb2).trans HPC.out.2
         have x0 : wq3.cell? ⟨X,0,none⟩ = some (.int .i64 n):=((HB2.out).cell (p:=⟨X,0,none⟩) hXlt).trans HX.out.1
         have x1 : wq3.cell? ⟨X,1,none⟩ = some (.int .i64 d):=((HB2.out).cell (p:=⟨X,1,none⟩) hXlt).trans HX.out.2
         have hz:=HB2.out.size
         have hown:=HO2.out
         have hln : out.length ≤ 1000000:=by have:=HL.out; omega
         clear hm hne
         go_wp2_with (at_builtin; refine wp_oneD (l:=out) (p:=(y1,y2)) rfl _ _ rfl rfl rfl rfl hown hz hln ?_; intro v3 w3 hown3 hb3)
         have HO3:=hide hown3
         have HB3:=hide (HB2.out.trans hb3)
         clear hown hown3 hb3 hz hln
         go_wp2_with fail
         go_roundw
         case rel => exact ⟨q + 1,_,false,by omega,by go_num,rfl,HO3.out,HN,hide (by have:=HL.out; rw [List.length_append]; simp; omega),HB3.out⟩
         case measure => simp [intOf]; omega
     ·obtain rfl : q = k.length:=by omega
      cases f with
      | true =>
       have HF:=hide ((HNX.out _ rfl).2 out (by obtain ⟨e,hn⟩:=HP.out.done; rw [putO_yes hn,e]))
       have HBF:=hide (andthen HBR.out HBQ.out)
       have HOF:=hide (OwnD.low2 HOQ.out HBW.out.size)
       go_wp2_with fail
       go_roundw
       case rel => exact ⟨j + 1,out,by omega,by go_num,HOF.out,HF,HBF.out⟩
       case measure => simp [intOf]; omega
      | false =>
       have HF:=hide ((HNX.out _ rfl).2 (out ++ [(n,d)]) (by obtain ⟨e,hn⟩:=HP.out.last; rw [putO_yes hn,e]))
       have x0 : wr.cell? ⟨X,0,none⟩ = some (.int .i64 n):=((HBQ.out).cell (p:=⟨X,0,none⟩) hXlt).trans HX.out.1
       have x1 : wr.cell? ⟨X,1,none⟩ = some (.int .i64 d):=((HBQ.out).cell (p:=⟨X,1,none⟩) hXlt).trans HX.out.2
       have hz:=HBQ.out.size
       have hown:=HOQ.out
       have hln : out.length ≤ 1000000:=by have:=HL.out; omega
       go_wp2_with (at_builtin; refine wp_oneD (l:=out) (p:=(n,d)) rfl _ _ rfl rfl rfl rfl hown hz hln ?_; intro v3 w3 hown3 hb3)
       have HBF:=hide (andthen HBR.out (HBQ.out.trans hb3))
       have HOF:=hide (OwnD.low2 hown3 HBW.out.size)
       clear hown hown3 hb3 hz hln
       go_wp2_with fail
       go_roundw
       case rel => exact ⟨j + 1,_,by omega,by go_num,HOF.out,HF,HBF.out⟩
       case measure => simp [intOf]; omega
  ·obtain rfl : j = ps.length:=by omega
   rw [List.take_length] at HK
   go_wp2_with fail
   go_ret2
   exact ⟨HBW.out,Or.inr ⟨_,_,HK.out,rfl,HO.out⟩⟩

end Go.Proofs.YtgdjeddelcfgeaaGreatDoor

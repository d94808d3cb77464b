/- EvRK; EvRL of the recipes, what is needed of them. -/
import Derived.Test.YtgdjeddelcfgeaaGreatDoorXW17
import Derived.Test.YtgdjeddelcfgeaaGreatDoorXEvG
import Derived.Test.YtgdjeddelcfgeaaGreatDoorXW19
import Derived.Test.YtgdjeddelcfgeaaGreatDoorXRefF
namespace Go.Proofs.YtgdjeddelcfgeaaGreatDoor
open Go.RowKit Rul Rt Go.Sort

def kN : List Tx:=[Ev.nUID,Ev.nSTART,Ev.nLONG,Ev.nROOMS,Ev.nRULE,Ev.nEX,Ev.nTEXT]
def KnR (t : Tx) (k : Int) : Prop:=(∃ j : Nat,k = j ∧ kN[j]? = some t) ∨ (k = -1 ∧ t ∉ kN)
theorem kN_cells (j : Nat) (h : j < 7) : ∃ n,kN[j]? = some n ∧ [Value.string (str Ev.nUID),.string (str Ev.nSTART),.string (str Ev.nLONG),.string (str Ev.nROOMS),.string (str Ev.nRULE),.string (str Ev.nEX),.string (str Ev.nTEXT)][j]? = some (.string (str n)):=by
 rcases j with _ | _ | _ | _ | _ | _ | _ | j
 all_goals first | exact ⟨_,rfl,rfl⟩ | omega
set_option maxRecDepth 100000 in
set_option maxHeartbeats 1000000 in
theorem rknown_any (t : Tx) (w : World) :
  Calls Tryz.prog 48 #[.string (str t)] w fun e w' => ∃ k,e = .returned (.int .i64 k) ∧ KnR t k ∧ Below w.heap.size w w':=by
 have q1:=str_tl t
 have hk0:=blk_new w #[.string (str Ev.nUID),.string (str Ev.nSTART),.string (str Ev.nLONG),.string (str Ev.nROOMS),.string (str Ev.nRULE),.string (str Ev.nEX),.string (str Ev.nTEXT)] 116
 have hbox:=more (start w) (.cells #[.string (str Ev.nUID),.string (str Ev.nSTART),.string (str Ev.nLONG),.string (str Ev.nROOMS),.string (str Ev.nRULE),.string (str Ev.nEX),.string (str Ev.nTEXT)] 116)
 have HK:=hide hk0
 have HB:=hide hbox
 clear hk0 hbox
 go_enter Tryz.func48,Tryz.ntmps48
 go_wp2_with fail
 obtain ⟨W0,hW0⟩ : ∃ W,w.alloc (.cells #[.string (str Ev.nUID),.string (str Ev.nSTART),.string (str Ev.nLONG),.string (str Ev.nROOMS),.string (str Ev.nRULE),.string (str Ev.nEX),.string (str Ev.nTEXT)] 116) = W:=⟨_,rfl⟩
 go_loopw [4] (fun i wr => ∃ j : Nat,j ≤ 7 ∧ i = .int .i64 j ∧ (∀ k,k < j → kN[k]? ≠ some t) ∧ Below W0.heap.size W0 wr) (fun i _ => 7 - (intOf i).toNat)
 case atStart => exact ⟨0,Nat.zero_le _,rfl,fun k h => absurd h (Nat.not_lt_zero _),by subst hW0; exact start _⟩
 case round =>
  obtain ⟨j,hj,rfl,hno,hbw⟩:=hrel
  have HNO:=hide hno
  have HBR:=hide hbw
  have HBB : Hid (Below w.heap.size w wr):=hide (by have h:=hbw; rw [← hW0] at h; exact andthen HB.out h)
  clear hno
  by_cases hlt : j < 7
  ·obtain ⟨n,hn,hc⟩:=kN_cells j hlt
   have p1 : wr.cell? ⟨w.heap.size,j,none⟩ = some (.string (str n)):=by
    have hl : j < 7:=hlt
    have hb:=hbw
    rw [← hW0] at hb
    have hcc:=HK.out.cell j (by simpa using hl)
    rw [List.getElem?_eq_getElem (by simpa using hl)] at hc
    injection hc with hc
    rw [← hc]
    exact cell_keep hb hcc
   have hi0 : (0 : Int) ≤ (j : Int):=by omega
   have hi1 : (j : Int) < 7:=by omega
   have HN:=hide hn
   have q2:=str_tl n
   clear hn hc hbw
   cases e1 : (n == t)
   ·have HN2 : Hid (∀ k,k < j + 1 → kN[k]? ≠ some t):=hide fun k hk => by
     rcases Nat.lt_or_eq_of_le (Nat.le_of_lt_succ hk) with h | h
     ·exact HNO.out k h
     ·subst h
      rw [HN.out]
      intro h
      injection h with h
      rw [h,beq_self_eq_true] at e1
      cases e1
    go_wp2_with fail
    go_roundw
    case rel => exact ⟨j + 1,by omega,by go_num,HN2.out,HBR.out⟩
    case measure => simp [intOf]; omega
   ·go_wp2_with fail
    go_ret
    exact ⟨_,rfl,Or.inl ⟨j,rfl,by rw [HN.out,eq_of_beq e1]⟩,HBB.out⟩
  ·obtain rfl : j = 7:=by omega
   go_wp2_with fail
   go_ret
   refine ⟨_,rfl,Or.inr ⟨rfl,fun h => ?_⟩,HBB.out⟩
   obtain ⟨i,hi,he⟩:=List.mem_iff_getElem.1 h
   exact HNO.out i hi (by rw [List.getElem?_eq_getElem hi,he])

end Go.Proofs.YtgdjeddelcfgeaaGreatDoor
namespace Go.Proofs.YtgdjeddelcfgeaaGreatDoor
open Go.RowKit Rul Rt Go.Sort

set_option maxRecDepth 100000 in
set_option maxHeartbeats 2000000 in
theorem rdates_any (s : ByteArray) (w : World) (hs : s.size ≤ 900) :
  Calls Tryz.prog 87 #[.string s] w (IntsA w (listR inLt unU.f s.data.toList)):=by
 have hcl:=cutAt_len 44 s.data.toList
 have hcs:=cutAt_sub 44 s.data.toList
 rw [len_of] at hcl hcs
 have HC:=hide (fun w => rCut_any s 44 44 w rfl (by omega))
 have HF : Hid (listR inLt unU.f s.data.toList = insAll inLt unU.f (cutAt 44 s.data.toList) []):=hide rfl
 rw [HF.out]
 generalize cutAt 44 s.data.toList = ps at *
 clear HF
 go_enter Tryz.func87,Tryz.ntmps87
 go_wp2_with fail
 refine (HC.out _).mono ?_
 rintro e w1 ⟨v,rfl,hown,hb1⟩
 obtain ⟨A,cap,rfl,hrow,hcap⟩:=OwnS.row hown
 have HR:=hide hrow
 have HB1:=hide hb1
 clear hown hrow hb1
 go_wp2_with fail
 go_loopw [5,6,7,8,9,10,11] (fun v i _ _ _ _ _ wr => ∃ (J : Nat) (k : List Int),J ≤ ps.length ∧ i = .int .i64 J ∧ OwnI wr w.heap.size v k ∧ Hid (insAll inLt unU.f (ps.take J) [] = some k) ∧ Below w1.heap.size w1 wr) (fun _ i _ _ _ _ _ _ => ps.length - (intOf i).toNat)
 case atStart => exact ⟨0,[],Nat.zero_le _,rfl,ownI_nil _ _,hide rfl,start _⟩
 case round =>
  obtain ⟨J,l,hJ,rfl,hownO,HK,hbwO⟩:=hrel
  have HOO:=hide hownO
  have HBO:=hide hbwO
  have HBW:=hide (andthen HB1.out hbwO)
  clear hownO hbwO
  by_cases hltO : J < ps.length
  ·obtain ⟨b0,o0,rfl,hb0,hc0⟩:=HR.out (by intro h0; rw [h0] at hltO; exact absurd hltO (Nat.not_lt_zero _))
   obtain ⟨T,hT⟩ : ∃ T,ps[J] = T:=⟨_,rfl⟩
   have p0 : wr.cell? ⟨b0,o0 + J,none⟩ = some (.string (str T)):=by rw [← hT]; exact (HBO.out.cell (p:=⟨b0,_,none⟩) hb0).trans (hc0 J hltO)
   have hi2 : (0 : Int) ≤ (J : Int):=by omega
   have hi3 : (J : Int) < (ps.length : Int):=by omega
   have hkl : l.length ≤ 1000:=by have:=insAll_len _ _ _ HK.out; rw [List.length_take,List.length_nil] at this; omega
   have HD:=hide (fun w => rParse_any (str T) w)
   rw [str_list] at HD
   have hun : unU.f T = if (parseE T).2 = 0 then some (parseE T).1 else none:=rfl
   clear hc0
   obtain ⟨⟨x,c⟩,hP⟩ : ∃ P,parseE T = P:=⟨_,rfl⟩
   rw [hP] at hun HD
   simp only at hun HD
   go_wp2_with fail
   refine (HD.out _).mono ?_
   rintro _ w2 ⟨rfl,hb2⟩
   have HBO2:=hide (andthen HBO.out hb2)
   have HBW2:=hide (andthen HBW.out hb2)
   have HO2:=hide (HOO.out.keep hb2)
   clear hb2 p0 hP HD
   by_cases hc : c = 0
   ·have e0 : (c == 0) = true:=beq_iff_eq.2 hc
    have e1 : (c != 0) = false:=by rw [bne,e0]; rfl
    have HUN : Hid (unU.f T = some x):=hide (by rw [hun,if_pos hc])
    clear hun hc
    obtain ⟨A2,cap2,rfl,hrow2⟩:=OwnI.row HO2.out
    have HRR:=hide hrow2
    have hsz : l.length ≤ 100000:=by omega
    clear hrow2 HOO HO2 HBO HBW
    go_wp2_with fail
    go_loopw [9,10,11] (fun v d i wr => ∃ (j : Nat) (out : List Int) (b : Bool),j ≤ l.length ∧ i = .int .i64 j ∧ d = .bool b ∧ OwnI wr w2.heap.size v out ∧ Hid (PutAt inLt x l j out b) ∧ Hid (out.length ≤ j + 1) ∧ Below w2.heap.size w2 wr) (fun _ _ i _ => l.length - (intOf i).toNat)
    case atStart => exact ⟨0,[],false,Nat.zero_le _,rfl,rfl,ownI_nil _ _,hide (PutAt.zero inLt x l),hide (Nat.zero_le _),start _⟩
    case round =>
     obtain ⟨j,out,b,hj,rfl,rfl,hown,HP,HL,hbw⟩:=hrel
     have HO:=hide hown
     have HBR:=hide hbw
     clear hown hbw
     by_cases hlt : j < l.length
     ·obtain ⟨b1,o1,rfl,hb1,hc1⟩:=HRR.out (by intro h0; rw [h0] at hlt; exact absurd hlt (Nat.not_lt_zero _))
      obtain ⟨m,hm⟩ : ∃ m,l[j] = m:=⟨_,rfl⟩
      have p1 : wr.cell? ⟨b1,o1 + j,none⟩ = some (.int .i64 m):=by rw [← hm]; exact (HBR.out.cell (p:=⟨b1,_,none⟩) hb1).trans (hc1 j hlt)
      have hi0 : (0 : Int) ≤ (j : Int):=by omega
      have hi1 : (j : Int) < (l.length : Int):=by omega
      clear hc1
      by_cases hq : m = x
      ·have q : (m == x) = true:=beq_iff_eq.2 hq
       have HN : Hid (putO inLt x l = none):=hide (putO_no (by rw [← hq,← hm]; exact List.getElem_mem hlt))
       clear hm hq
       go_wp2_with fail
       go_ret2
       exact ⟨andthen HBW2.out HBR.out,Or.inl ⟨insAll_at_none hltO HK.out (by rw [hT,HUN.out]; exact HN.out),rfl⟩⟩
      ·have q : (m == x) = false:=beq_eq_false_iff_ne.2 hq
       cases b with
       | true =>
        have HN : Hid (PutAt inLt x l (j + 1) (out ++ [m]) true):=hide (by have:=HP.out.past hlt (by rw [hm]; exact hq); rwa [hm] at this)
        have hz:=HBR.out.size
        have hown:=HO.out
        have hln : out.length ≤ 1000000:=by have:=HL.out; omega
        clear hm hq
        go_wp2_with (at_builtin; refine wp_oneI (l:=out) (p:=m) rfl _ _ rfl rfl rfl rfl hown hz hln ?_; intro v3 w3 hown3 hb3)
        have HO3:=hide hown3
        have HB3:=hide (HBR.out.trans hb3)
        clear hown hown3 hb3 hz hln
        go_wp2_with fail
        go_roundw
        case rel => exact ⟨j + 1,out ++ [m],true,by omega,by go_num,rfl,HO3.out,HN,hide (by have:=HL.out; rw [List.length_append]; simp; omega),HB3.out⟩
        case measure => simp [intOf]; omega
       | false =>
        by_cases ht : x < m
        ·have q2 : decide (x < m) = true:=decide_eq_true ht
         have HN : Hid (PutAt inLt x l (j + 1) ((out ++ [x]) ++ [m]) true):=hide (by have:=HP.out.ahead hlt (by rw [hm]; exact hq) (by rw [hm]; exact q2); rwa [hm] at this)
         have HLO : Hid (out.length ≤ j):=hide (by
          rcases HP.out.rest with ⟨_,e,_⟩ | ⟨e,_⟩
          ·rw [e,List.length_take]; omega
          ·cases e)
         have hz:=HBR.out.size
         have hown:=HO.out
         have hln : out.length ≤ 1000000:=by have:=HL.out; omega
         clear hm hq ht
         go_upto_region 19 with (at_builtin; refine wp_oneI (l:=out) (p:=x) rfl _ _ rfl rfl rfl rfl hown hz hln ?_; intro v3 w3 hown3 hb3; have p2 : w3.cell? ⟨b1,o1 + j,none⟩ = some (.int .i64 m):=(hb3.cell (p:=⟨b1,_,none⟩) hb1).trans p1)
         have HO3:=hide hown3
         have HB3:=hide (HBR.out.trans hb3)
         have hz:=HB3.out.size
         clear hown hown3 hb3 hz hln p1
         have hz:=HB3.out.size
         have hown:=HO3.out
         have hln : (out ++ [x]).length ≤ 1000000:=by have:=HL.out; rw [List.length_append]; simp; omega
         go_wp2_with (at_builtin; refine wp_oneI (l:=out ++ [x]) (p:=m) rfl _ _ rfl rfl rfl rfl hown hz hln ?_; intro v4 w4 hown4 hb4)
         have HO4:=hide hown4
         have HB4:=hide (HB3.out.trans hb4)
         clear hown hown4 hb4 hz hln
         go_wp2_with fail
         go_roundw
         case rel => exact ⟨j + 1,_,true,by omega,by go_num,rfl,HO4.out,HN,hide (by have:=HLO.out; rw [List.length_append,List.length_append]; simp; omega),HB4.out⟩
         case measure => simp [intOf]; omega
        ·have q2 : decide (x < m) = false:=decide_eq_false ht
         have HN : Hid (PutAt inLt x l (j + 1) (out ++ [m]) false):=hide (by have:=HP.out.skip hlt (by rw [hm]; exact hq) (by rw [hm]; exact q2); rwa [hm] at this)
         have hz:=HBR.out.size
         have hown:=HO.out
         have hln : out.length ≤ 1000000:=by have:=HL.out; omega
         clear hm hq ht
         go_wp2_with (at_builtin; refine wp_oneI (l:=out) (p:=m) rfl _ _ rfl rfl rfl rfl hown hz hln ?_; intro v3 w3 hown3 hb3)
         have HO3:=hide hown3
         have HB3:=hide (HBR.out.trans hb3)
         clear hown hown3 hb3 hz hln
         go_wp2_with fail
         go_roundw
         case rel => exact ⟨j + 1,out ++ [m],false,by omega,by go_num,rfl,HO3.out,HN,hide (by have:=HL.out; rw [List.length_append]; simp; omega),HB3.out⟩
         case measure => simp [intOf]; omega
     ·obtain rfl : j = l.length:=by omega
      cases b with
      | true =>
       have HF : Hid (putO inLt x l = some out):=hide (by obtain ⟨e,hn⟩:=HP.out.done; rw [putO_yes hn,e])
       have HBE:=hide (andthen HBO2.out HBR.out)
       have HOE:=hide (HO.out.low2 HBW2.out.size)
       have HKE : Hid (insAll inLt unU.f (ps.take (J + 1)) [] = some out):=hide (by rw [List.take_succ_eq_append_getElem hltO,insAll_snoc _ _ _ HK.out,hT]; simp only [HUN.out]; exact HF.out)
       go_wp2_with fail
       go_roundw
       case rel => exact ⟨J + 1,out,by omega,by go_num,HOE.out,HKE,HBE.out⟩
       case measure => simp [intOf]; omega
      | false =>
       have HF : Hid (putO inLt x l = some (out ++ [x])):=hide (by obtain ⟨e,hn⟩:=HP.out.last; rw [putO_yes hn,e])
       have hz:=HBR.out.size
       have hown:=HO.out
       have hln : out.length ≤ 1000000:=by have:=HL.out; omega
       go_wp2_with (at_builtin; refine wp_oneI (l:=out) (p:=x) rfl _ _ rfl rfl rfl rfl hown hz hln ?_; intro v3 w3 hown3 hb3)
       have HO3:=hide hown3
       have HB3:=hide (HBR.out.trans hb3)
       clear hown hown3 hb3 hz hln
       have HBE:=hide (andthen HBO2.out HB3.out)
       have HOE:=hide (HO3.out.low2 HBW2.out.size)
       have HKE : Hid (insAll inLt unU.f (ps.take (J + 1)) [] = some (out ++ [x])):=hide (by rw [List.take_succ_eq_append_getElem hltO,insAll_snoc _ _ _ HK.out,hT]; simp only [HUN.out]; exact HF.out)
       go_wp2_with fail
       go_roundw
       case rel => exact ⟨J + 1,(out ++ [x]),by omega,by go_num,HOE.out,HKE,HBE.out⟩
       case measure => simp [intOf]; omega
   ·have e0 : (c == 0) = false:=beq_eq_false_iff_ne.2 hc
    have e1 : (c != 0) = true:=by rw [bne,e0]; rfl
    have HN : Hid (insAll inLt unU.f ps [] = none):=hide (insAll_at_none hltO HK.out (by rw [hT,hun,if_neg hc]))
    clear hun hc hT
    go_wp2_with fail
    go_ret2
    exact ⟨HBW2.out,Or.inl ⟨HN.out,rfl⟩⟩
  ·obtain rfl : J = ps.length:=by omega
   rw [List.take_length] at HK
   go_wp2_with fail
   go_ret2
   exact ⟨HBW.out,Or.inr ⟨_,_,HK.out,rfl,HOO.out⟩⟩

end Go.Proofs.YtgdjeddelcfgeaaGreatDoor

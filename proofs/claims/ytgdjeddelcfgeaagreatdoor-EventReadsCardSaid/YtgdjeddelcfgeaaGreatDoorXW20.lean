/- RtSet; RtRd of the recipes, what is needed of them. -/
import Derived.Deep.RegionHeld3
import Derived.Deep.Cut
import Derived.Test.YtgdjeddelcfgeaaGreatDoorXW19
import Derived.Test.YtgdjeddelcfgeaaGreatDoorXW6
import Derived.Test.YtgdjeddelcfgeaaGreatDoorXRefF
import Derived.Test.YtgdjeddelcfgeaaGreatDoorXRuU
namespace Go.Proofs.YtgdjeddelcfgeaaGreatDoor
open Go.RowKit Rul Rt Go.Sort

theorem listR_len {α : Type} [DecidableEq α] {lt : α → α → Bool} {f : Tx → Option α} {t : Tx} {l : List α} (h : listR lt f t = some l) : l.length ≤ t.length + 1:=by
 have h1:=insAll_len _ _ _ h
 have h2:=cutAt_len 44 t
 rw [List.length_nil] at h1; omega
theorem grown_more {w w1 w2 : World} {b : Nat} (h : w.grownBy w1 (some b)) (hb : Below w1.heap.size w1 w2) : w.grownBy w2 (some b):=h.trans (grown_below hb)
theorem grown_put {w w1 : World} {b i : Nat} {y : Value} (h : w.grownBy w1 (some b)) : w.grownBy (w1.setCell ⟨b,i,none⟩ y) (some b):=h.trans (grown_set (start w1))
def FrAt (t : Tx) (j : Nat) (f : Bool) (k : Nat) : Prop:=(f = false ∧ ∀ i,i + 1 < j → freqWs.getD i [] ≠ t) ∨ (f = true ∧ k < 4 ∧ freqWs.getD k [] = t)
theorem FrAt.no {t : Tx} {k : Nat} (h : FrAt t 5 false k) : ixOf freqWs t = none:=by
 rcases h with ⟨_,h⟩ | ⟨h,_⟩
 ·cases hx : ixOf freqWs t with
  | none => rfl
  | some i =>
   have h1:=ixOf_some hx
   have h2 : i < 4:=(List.getElem?_eq_some_iff.1 h1).1
   exact absurd (by rw [List.getD_eq_getElem?_getD,h1]; rfl) (h i (by omega))
 ·cases h
theorem FrAt.yes {t : Tx} {k : Nat} (h : FrAt t 5 true k) : ixOf freqWs t = some k:=by
 rcases h with ⟨h,_⟩ | ⟨_,h4,rfl⟩
 ·cases h
 ·have : ∀ k : Nat,k < 4 → ixOf freqWs (freqWs.getD k []) = some k:=by decide
  exact this k h4
def frSet (r : T) (f : Bool) (k : Nat) : T:=if f then { r with fr:=((k + 1 : Nat) : Int) } else r

set_option maxRecDepth 100000 in
set_option maxHeartbeats 1000000 in
theorem rset_0 (t : Tx) (b : Nat) (v : Value) (r : T) (D M Y : Option Addr) (dn dc mn mc yn yc : Nat) (w : World) (h : RuleAt w b v r D dn dc M mn mc Y yn yc) (hv : ∀ g,v.ownBlock = some g → g < w.heap.size) (ht : t.length ≤ 900) :
  Calls Tryz.prog 121 #[.pointer (some ⟨b,0,none⟩),.string (str nFREQ),.string (str t)] w (Takes w b v r (Rt.valOf unU rdR nFREQ t)):=by
 rw [rval_0]
 obtain ⟨X,hX⟩ : ∃ X,nFREQ = X:=⟨_,rfl⟩
 have e0 : (X == [70,82,69,81]) = true:=by rw [← hX]; decide
 have q1:=str_tl X
 have hts : (str t).size ≤ 900:=by rw [str_size]; exact ht
 have htl : (str t).data.toList = t:=str_list t
 have H:=hide h
 have HV:=hide hv
 rw [hX]
 clear h hv hX ht
 go_enter Tryz.func121,Tryz.ntmps121
 go_wp2_with fail
 go_loopw [7,8] (fun ok i wr => ∃ (j : Nat) (f : Bool) (k : Nat),1 ≤ j ∧ j ≤ 5 ∧ i = .int .i64 j ∧ ok = .bool f ∧ RuleAt wr b v (frSet r f k) D dn dc M mn mc Y yn yc ∧ w.grownBy wr (some b) ∧ Hid (FrAt t j f k)) (fun _ i _ => 5 - (intOf i).toNat)
 case atStart => exact ⟨1,false,0,Nat.le_refl _,by omega,rfl,rfl,H.out,grown_below (start _),hide (Or.inl ⟨rfl,fun i h => absurd h (by omega)⟩)⟩
 case round =>
  obtain ⟨j,f,k,hj1,hj,rfl,rfl,hru,hg,HA⟩:=hrel
  have HU:=hide hru
  have HG:=hide hg
  clear hru hg
  by_cases hlt : j < 5
  ·have HC:=hide (fun w => rfreq_any (j : Int) w (by omega) (by omega))
   have hi0 : (j : Int) ≤ 4:=by omega
   have hfq : freqT (j : Int) = freqWs.getD (j - 1) []:=by unfold freqT; rw [Int.toNat_natCast]
   rw [hfq] at HC
   clear hfq
   by_cases hq : freqWs.getD (j - 1) [] = t
   ·have HN : Hid (FrAt t (j + 1) true (j - 1)):=hide (Or.inr ⟨rfl,by omega,hq⟩)
    have q2 : (freqWs.getD (j - 1) [] == t) = true:=by rw [tx_eq]; exact decide_eq_true hq
    have hjj : (((j - 1 + 1 : Nat)) : Int) = (j : Int):=by omega
    generalize freqWs.getD (j - 1) [] = F at *
    have q3:=str_tl F
    have q4:=str_tl t
    clear hq
    go_wp2_with fail
    refine (HC.out _).mono ?_
    rintro e w2 ⟨rfl,hb⟩
    have hu:=HU.out.keep hb
    have ck:=hu.c0
    have fk:=hu.f0
    have HW:=hide (hu.set_fr (j : Int))
    have HGG:=hide (grown_put (i:=0) (y:=.int .i64 (j : Int)) (grown_more HG.out hb))
    have HEQ : Hid ({ frSet r f k with fr:=(j : Int) } = frSet r true (j - 1)):=hide (by unfold frSet; rw [hjj]; cases f <;> rfl)
    rw [HEQ.out] at HW
    clear hu hb hjj
    go_wp2_with fail
    go_roundw
    case rel => exact ⟨j + 1,true,j - 1,by omega,by omega,by go_num,rfl,HW.out,HGG.out,HN⟩
    case measure => simp [intOf]; omega
   ·have HN : Hid (FrAt t (j + 1) f k):=hide (by
     rcases HA.out with ⟨h1,h2⟩ | h
     ·refine Or.inl ⟨h1,fun i hi => ?_⟩
      rcases Nat.lt_or_ge (i + 1) j with g | g
      ·exact h2 i g
      ·obtain rfl : i = j - 1:=by omega
       exact hq
     ·exact Or.inr h)
    have q2 : (freqWs.getD (j - 1) [] == t) = false:=by rw [tx_eq]; exact decide_eq_false hq
    generalize freqWs.getD (j - 1) [] = F at *
    have q3:=str_tl F
    have q4:=str_tl t
    clear hq
    go_wp2_with fail
    refine (HC.out _).mono ?_
    rintro e w2 ⟨rfl,hb⟩
    have HW:=hide (HU.out.keep hb)
    have HGG:=hide (grown_more HG.out hb)
    clear hb
    go_wp2_with fail
    go_roundw
    case rel => exact ⟨j + 1,f,k,by omega,by omega,by go_num,rfl,HW.out,HGG.out,HN⟩
    case measure => simp [intOf]; omega
  ·obtain rfl : j = 5:=by omega
   cases f with
   | false =>
    have HX:=hide HA.out.no
    go_wp2_with fail
    go_ret
    rw [HX.out]
    exact ⟨HG.out,rfl⟩
   | true =>
    have HX:=hide HA.out.yes
    go_wp2_with fail
    go_ret
    rw [HX.out]
    exact ⟨HG.out,rfl,_,_,_,_,_,_,_,_,_,HU.out⟩

set_option maxRecDepth 100000 in
set_option maxHeartbeats 1000000 in
theorem rset_1 (t : Tx) (b : Nat) (v : Value) (r : T) (D M Y : Option Addr) (dn dc mn mc yn yc : Nat) (w : World) (h : RuleAt w b v r D dn dc M mn mc Y yn yc) (hv : ∀ g,v.ownBlock = some g → g < w.heap.size) (ht : t.length ≤ 900) :
  Calls Tryz.prog 121 #[.pointer (some ⟨b,0,none⟩),.string (str nINTERVAL),.string (str t)] w (Takes w b v r (Rt.valOf unU rdR nINTERVAL t)):=by
 rw [rval_1]
 obtain ⟨X,hX⟩ : ∃ X,nINTERVAL = X:=⟨_,rfl⟩
 have e0 : (X == [70,82,69,81]) = false:=by rw [← hX]; decide
 have e1 : (X == [73,78,84,69,82,86,65,76]) = true:=by rw [← hX]; decide
 have q1:=str_tl X
 have hts : (str t).size ≤ 900:=by rw [str_size]; exact ht
 have htl : (str t).data.toList = t:=str_list t
 have H:=hide h
 have HV:=hide hv
 rw [hX]
 clear h hv hX ht
 have HD:=hide (fun w => rDec_any (str t) false w (by omega))
 rw [htl] at HD
 have ck:=H.out.c1
 have fk:=H.out.f1
 cases hd : decR t false with
 | none =>
  rw [decA_none hd] at HD
  have HO : Hid ((rdR.pos t).map Rt.Part.ev = none):=hide (by show (posOf (decR · false) t).map _ = none; unfold posOf; simp only [hd]; rfl)
  have ck2 : (w.setCell ⟨b,1,none⟩ (.int .i64 0)).cell? ⟨b,1,none⟩ = some (.int .i64 0):=set_st ck
  clear hd
  go_enter Tryz.func121,Tryz.ntmps121
  go_wp2_with fail
  refine (HD.out _).mono ?_
  rintro e w1 ⟨rfl,rfl⟩
  go_wp2_with fail
  go_ret
  rw [HO.out]
  exact ⟨grown_set (start _),rfl⟩
 | some n =>
  rw [decA_some hd] at HD
  have ck2 : (w.setCell ⟨b,1,none⟩ (.int .i64 n)).cell? ⟨b,1,none⟩ = some (.int .i64 n):=set_st ck
  by_cases hp : 0 < n
  ·have HO : Hid ((rdR.pos t).map Rt.Part.ev = some (Rt.Part.ev n)):=hide (by show (posOf (decR · false) t).map _ = _; unfold posOf; simp only [hd]; rw [if_pos hp]; rfl)
   have q2 : decide (0 < n) = true:=decide_eq_true hp
   clear hd
   go_enter Tryz.func121,Tryz.ntmps121
   go_wp2_with fail
   refine (HD.out _).mono ?_
   rintro e w1 ⟨rfl,rfl⟩
   go_wp2_with fail
   go_ret
   rw [HO.out]
   exact ⟨grown_set (start _),rfl,_,_,_,_,_,_,_,_,_,H.out.set_ev n⟩
  ·have HO : Hid ((rdR.pos t).map Rt.Part.ev = none):=hide (by show (posOf (decR · false) t).map _ = none; unfold posOf; simp only [hd]; rw [if_neg hp]; rfl)
   have q2 : decide (0 < n) = false:=decide_eq_false hp
   clear hd
   go_enter Tryz.func121,Tryz.ntmps121
   go_wp2_with fail
   refine (HD.out _).mono ?_
   rintro e w1 ⟨rfl,rfl⟩
   go_wp2_with fail
   go_ret
   rw [HO.out]
   exact ⟨grown_set (start _),rfl⟩

set_option maxRecDepth 100000 in
set_option maxHeartbeats 1000000 in
theorem rset_2 (t : Tx) (b : Nat) (v : Value) (r : T) (D M Y : Option Addr) (dn dc mn mc yn yc : Nat) (w : World) (h : RuleAt w b v r D dn dc M mn mc Y yn yc) (hv : ∀ g,v.ownBlock = some g → g < w.heap.size) (ht : t.length ≤ 900) :
  Calls Tryz.prog 121 #[.pointer (some ⟨b,0,none⟩),.string (str nCOUNT),.string (str t)] w (Takes w b v r (Rt.valOf unU rdR nCOUNT t)):=by
 rw [rval_2]
 obtain ⟨X,hX⟩ : ∃ X,nCOUNT = X:=⟨_,rfl⟩
 have e0 : (X == [70,82,69,81]) = false:=by rw [← hX]; decide
 have e1 : (X == [73,78,84,69,82,86,65,76]) = false:=by rw [← hX]; decide
 have e2 : (X == [67,79,85,78,84]) = true:=by rw [← hX]; decide
 have q1:=str_tl X
 have hts : (str t).size ≤ 900:=by rw [str_size]; exact ht
 have htl : (str t).data.toList = t:=str_list t
 have H:=hide h
 have HV:=hide hv
 rw [hX]
 clear h hv hX ht
 have HD:=hide (fun w => rDec_any (str t) false w (by omega))
 rw [htl] at HD
 have ck:=H.out.c2
 have fk:=H.out.f2
 cases hd : decR t false with
 | none =>
  rw [decA_none hd] at HD
  have HO : Hid ((rdR.pos t).map Rt.Part.ct = none):=hide (by show (posOf (decR · false) t).map _ = none; unfold posOf; simp only [hd]; rfl)
  have ck2 : (w.setCell ⟨b,2,none⟩ (.int .i64 0)).cell? ⟨b,2,none⟩ = some (.int .i64 0):=set_st ck
  clear hd
  go_enter Tryz.func121,Tryz.ntmps121
  go_wp2_with fail
  refine (HD.out _).mono ?_
  rintro e w1 ⟨rfl,rfl⟩
  go_wp2_with fail
  go_ret
  rw [HO.out]
  exact ⟨grown_set (start _),rfl⟩
 | some n =>
  rw [decA_some hd] at HD
  have ck2 : (w.setCell ⟨b,2,none⟩ (.int .i64 n)).cell? ⟨b,2,none⟩ = some (.int .i64 n):=set_st ck
  by_cases hp : 0 < n
  ·have HO : Hid ((rdR.pos t).map Rt.Part.ct = some (Rt.Part.ct n)):=hide (by show (posOf (decR · false) t).map _ = _; unfold posOf; simp only [hd]; rw [if_pos hp]; rfl)
   have q2 : decide (0 < n) = true:=decide_eq_true hp
   clear hd
   go_enter Tryz.func121,Tryz.ntmps121
   go_wp2_with fail
   refine (HD.out _).mono ?_
   rintro e w1 ⟨rfl,rfl⟩
   go_wp2_with fail
   go_ret
   rw [HO.out]
   exact ⟨grown_set (start _),rfl,_,_,_,_,_,_,_,_,_,H.out.set_ct n⟩
  ·have HO : Hid ((rdR.pos t).map Rt.Part.ct = none):=hide (by show (posOf (decR · false) t).map _ = none; unfold posOf; simp only [hd]; rw [if_neg hp]; rfl)
   have q2 : decide (0 < n) = false:=decide_eq_false hp
   clear hd
   go_enter Tryz.func121,Tryz.ntmps121
   go_wp2_with fail
   refine (HD.out _).mono ?_
   rintro e w1 ⟨rfl,rfl⟩
   go_wp2_with fail
   go_ret
   rw [HO.out]
   exact ⟨grown_set (start _),rfl⟩

set_option maxRecDepth 100000 in
set_option maxHeartbeats 1000000 in
theorem rset_3 (t : Tx) (b : Nat) (v : Value) (r : T) (D M Y : Option Addr) (dn dc mn mc yn yc : Nat) (w : World) (h : RuleAt w b v r D dn dc M mn mc Y yn yc) (hv : ∀ g,v.ownBlock = some g → g < w.heap.size) (ht : t.length ≤ 900) :
  Calls Tryz.prog 121 #[.pointer (some ⟨b,0,none⟩),.string (str nUNTIL),.string (str t)] w (Takes w b v r (Rt.valOf unU rdR nUNTIL t)):=by
 rw [rval_3]
 obtain ⟨X,hX⟩ : ∃ X,nUNTIL = X:=⟨_,rfl⟩
 have e0 : (X == [70,82,69,81]) = false:=by rw [← hX]; decide
 have e1 : (X == [73,78,84,69,82,86,65,76]) = false:=by rw [← hX]; decide
 have e2 : (X == [67,79,85,78,84]) = false:=by rw [← hX]; decide
 have e3 : (X == [85,78,84,73,76]) = true:=by rw [← hX]; decide
 have q1:=str_tl X
 have hts : (str t).size ≤ 900:=by rw [str_size]; exact ht
 have htl : (str t).data.toList = t:=str_list t
 have H:=hide h
 have HV:=hide hv
 rw [hX]
 clear h hv hX ht
 go_enter Tryz.func121,Tryz.ntmps121
 go_wp2_with fail
 refine (rParse_any (str t) _).mono ?_
 rintro e w1 ⟨rfl,hb⟩
 rw [htl]
 have hun : unU.f t = if (parseE t).2 = 0 then some (parseE t).1 else none:=rfl
 obtain ⟨⟨n,c⟩,hP⟩ : ∃ P,parseE t = P:=⟨_,rfl⟩
 rw [hP] at hun ⊢
 simp only at hun ⊢
 have ck:=(H.out.keep hb).c3
 have fk:=(H.out.keep hb).f3
 have HK:=hide (H.out.keep hb)
 have HB:=hide hb
 clear hb hP
 by_cases hc : c = 0
 ·have HO : Hid (unU.f t = some n):=hide (by rw [hun,if_pos hc])
  have q2 : (c == 0) = true:=beq_iff_eq.2 hc
  clear hun hc
  go_wp2_with fail
  go_ret
  rw [HO.out]
  exact ⟨grown_set HB.out,rfl,_,_,_,_,_,_,_,_,_,HK.out.set_un n⟩
 ·have HO : Hid (unU.f t = none):=hide (by rw [hun,if_neg hc])
  have q2 : (c == 0) = false:=beq_eq_false_iff_ne.2 hc
  clear hun hc
  go_wp2_with fail
  go_ret
  rw [HO.out]
  exact ⟨grown_set HB.out,rfl⟩

set_option maxRecDepth 100000 in
set_option maxHeartbeats 1000000 in
theorem rset_4 (t : Tx) (b : Nat) (v : Value) (r : T) (D M Y : Option Addr) (dn dc mn mc yn yc : Nat) (w : World) (h : RuleAt w b v r D dn dc M mn mc Y yn yc) (hv : ∀ g,v.ownBlock = some g → g < w.heap.size) (ht : t.length ≤ 900) :
  Calls Tryz.prog 121 #[.pointer (some ⟨b,0,none⟩),.string (str nBYMONTH),.string (str t)] w (Takes w b v r (Rt.valOf unU rdR nBYMONTH t)):=by
 rw [rval_4]
 obtain ⟨X,hX⟩ : ∃ X,nBYMONTH = X:=⟨_,rfl⟩
 have e0 : (X == [70,82,69,81]) = false:=by rw [← hX]; decide
 have e1 : (X == [73,78,84,69,82,86,65,76]) = false:=by rw [← hX]; decide
 have e2 : (X == [67,79,85,78,84]) = false:=by rw [← hX]; decide
 have e3 : (X == [85,78,84,73,76]) = false:=by rw [← hX]; decide
 have e4 : (X == [66,89,77,79,78,84,72]) = true:=by rw [← hX]; decide
 have q1:=str_tl X
 have hts : (str t).size ≤ 900:=by rw [str_size]; exact ht
 have htl : (str t).data.toList = t:=str_list t
 have H:=hide h
 have HV:=hide hv
 rw [hX]
 clear h hv hX ht
 have HC:=hide (ints_any (str t) false w hts)
 rw [htl] at HC
 obtain ⟨O,hO⟩ : ∃ O,listR inLt (decR · false) t = O:=⟨_,rfl⟩
 have HO : Hid ((rdR.nums false t).map Rt.Part.ys = O.map Rt.Part.ys):=hide (by rw [← hO]; rfl)
 have HLE : Hid (∀ l,O = some l → l.length ≤ 1000):=hide (fun l hl => by rw [← hO] at hl; have h1:=listR_len hl; rw [str_size] at hts; omega)
 rw [hO] at HC
 clear hO
 go_enter Tryz.func121,Tryz.ntmps121
 go_wp2_with fail
 refine HC.out.mono ?_
 rintro e w2 ⟨hb,⟨rfl,rfl⟩ | ⟨l,v2,rfl,rfl,hown⟩⟩
 ·have ck:=(H.out.keep hb).c6
  have fk:=(H.out.keep hb).f6
  have HB:=hide hb
  clear hb
  go_wp2_with fail
  go_ret
  rw [HO.out]
  exact ⟨grown_set HB.out,rfl⟩
 ·have HOW:=hide hown
  obtain ⟨A2,cap2,rfl,hrow⟩:=OwnI.row hown
  have HRW:=hide hrow
  have ck:=(H.out.keep hb).c6
  have fk:=(H.out.keep hb).f6
  have HK:=hide (H.out.keep hb)
  have HB:=hide hb
  clear hb hown hrow
  go_wp2_with fail
  go_ret
  rw [HO.out]
  exact ⟨grown_set HB.out,rfl,_,_,_,_,_,_,_,_,_,HK.out.set_ys A2 _ cap2 l HRW.out rfl (HLE.out l rfl) (OffB.new HOW.out H.out.lt HV.out)⟩

set_option maxRecDepth 100000 in
set_option maxHeartbeats 1000000 in
theorem rset_5 (t : Tx) (b : Nat) (v : Value) (r : T) (D M Y : Option Addr) (dn dc mn mc yn yc : Nat) (w : World) (h : RuleAt w b v r D dn dc M mn mc Y yn yc) (hv : ∀ g,v.ownBlock = some g → g < w.heap.size) (ht : t.length ≤ 900) :
  Calls Tryz.prog 121 #[.pointer (some ⟨b,0,none⟩),.string (str nBYMONTHDAY),.string (str t)] w (Takes w b v r (Rt.valOf unU rdR nBYMONTHDAY t)):=by
 rw [rval_5]
 obtain ⟨X,hX⟩ : ∃ X,nBYMONTHDAY = X:=⟨_,rfl⟩
 have e0 : (X == [70,82,69,81]) = false:=by rw [← hX]; decide
 have e1 : (X == [73,78,84,69,82,86,65,76]) = false:=by rw [← hX]; decide
 have e2 : (X == [67,79,85,78,84]) = false:=by rw [← hX]; decide
 have e3 : (X == [85,78,84,73,76]) = false:=by rw [← hX]; decide
 have e4 : (X == [66,89,77,79,78,84,72]) = false:=by rw [← hX]; decide
 have e5 : (X == [66,89,77,79,78,84,72,68,65,89]) = true:=by rw [← hX]; decide
 have q1:=str_tl X
 have hts : (str t).size ≤ 900:=by rw [str_size]; exact ht
 have htl : (str t).data.toList = t:=str_list t
 have H:=hide h
 have HV:=hide hv
 rw [hX]
 clear h hv hX ht
 have HC:=hide (ints_any (str t) true w hts)
 rw [htl] at HC
 obtain ⟨O,hO⟩ : ∃ O,listR inLt (decR · true) t = O:=⟨_,rfl⟩
 have HO : Hid ((rdR.nums true t).map Rt.Part.ms = O.map Rt.Part.ms):=hide (by rw [← hO]; rfl)
 have HLE : Hid (∀ l,O = some l → l.length ≤ 1000):=hide (fun l hl => by rw [← hO] at hl; have h1:=listR_len hl; rw [str_size] at hts; omega)
 rw [hO] at HC
 clear hO
 go_enter Tryz.func121,Tryz.ntmps121
 go_wp2_with fail
 refine HC.out.mono ?_
 rintro e w2 ⟨hb,⟨rfl,rfl⟩ | ⟨l,v2,rfl,rfl,hown⟩⟩
 ·have ck:=(H.out.keep hb).c5
  have fk:=(H.out.keep hb).f5
  have HB:=hide hb
  clear hb
  go_wp2_with fail
  go_ret
  rw [HO.out]
  exact ⟨grown_set HB.out,rfl⟩
 ·have HOW:=hide hown
  obtain ⟨A2,cap2,rfl,hrow⟩:=OwnI.row hown
  have HRW:=hide hrow
  have ck:=(H.out.keep hb).c5
  have fk:=(H.out.keep hb).f5
  have HK:=hide (H.out.keep hb)
  have HB:=hide hb
  clear hb hown hrow
  go_wp2_with fail
  go_ret
  rw [HO.out]
  exact ⟨grown_set HB.out,rfl,_,_,_,_,_,_,_,_,_,HK.out.set_ms A2 _ cap2 l HRW.out rfl (HLE.out l rfl) (OffB.new HOW.out H.out.lt HV.out)⟩

set_option maxRecDepth 100000 in
set_option maxHeartbeats 1000000 in
theorem rset_6 (t : Tx) (b : Nat) (v : Value) (r : T) (D M Y : Option Addr) (dn dc mn mc yn yc : Nat) (w : World) (h : RuleAt w b v r D dn dc M mn mc Y yn yc) (hv : ∀ g,v.ownBlock = some g → g < w.heap.size) (ht : t.length ≤ 900) :
  Calls Tryz.prog 121 #[.pointer (some ⟨b,0,none⟩),.string (str nBYDAY),.string (str t)] w (Takes w b v r (Rt.valOf unU rdR nBYDAY t)):=by
 rw [rval_6]
 obtain ⟨X,hX⟩ : ∃ X,nBYDAY = X:=⟨_,rfl⟩
 have e0 : (X == [70,82,69,81]) = false:=by rw [← hX]; decide
 have e1 : (X == [73,78,84,69,82,86,65,76]) = false:=by rw [← hX]; decide
 have e2 : (X == [67,79,85,78,84]) = false:=by rw [← hX]; decide
 have e3 : (X == [85,78,84,73,76]) = false:=by rw [← hX]; decide
 have e4 : (X == [66,89,77,79,78,84,72]) = false:=by rw [← hX]; decide
 have e5 : (X == [66,89,77,79,78,84,72,68,65,89]) = false:=by rw [← hX]; decide
 have e6 : (X == [66,89,68,65,89]) = true:=by rw [← hX]; decide
 have q1:=str_tl X
 have hts : (str t).size ≤ 900:=by rw [str_size]; exact ht
 have htl : (str t).data.toList = t:=str_list t
 have H:=hide h
 have HV:=hide hv
 rw [hX]
 clear h hv hX ht
 have HC:=hide (rwdays_any (str t) w hts)
 rw [htl] at HC
 obtain ⟨O,hO⟩ : ∃ O,listR wdLt (wdWith (decR · true)) t = O:=⟨_,rfl⟩
 have HO : Hid ((rdR.wds t).map Rt.Part.ds = O.map Rt.Part.ds):=hide (by rw [← hO]; rfl)
 have HLE : Hid (∀ l,O = some l → l.length ≤ 1000):=hide (fun l hl => by rw [← hO] at hl; have h1:=listR_len hl; rw [str_size] at hts; omega)
 rw [hO] at HC
 clear hO
 go_enter Tryz.func121,Tryz.ntmps121
 go_wp2_with fail
 refine HC.out.mono ?_
 rintro e w2 ⟨hb,⟨rfl,rfl⟩ | ⟨l,v2,rfl,rfl,hown⟩⟩
 ·have ck:=(H.out.keep hb).c4
  have fk:=(H.out.keep hb).f4
  have HB:=hide hb
  clear hb
  go_wp2_with fail
  go_ret
  rw [HO.out]
  exact ⟨grown_set HB.out,rfl⟩
 ·have HOW:=hide hown
  obtain ⟨A2,cap2,rfl,hrow⟩:=OwnD.row hown
  have HRW:=hide hrow
  have ck:=(H.out.keep hb).c4
  have fk:=(H.out.keep hb).f4
  have HK:=hide (H.out.keep hb)
  have HB:=hide hb
  clear hb hown hrow
  go_wp2_with fail
  go_ret
  rw [HO.out]
  exact ⟨grown_set HB.out,rfl,_,_,_,_,_,_,_,_,_,HK.out.set_ds A2 _ cap2 l HRW.out rfl (HLE.out l rfl) (OffB.newD HOW.out H.out.lt HV.out)⟩

set_option maxRecDepth 100000 in
set_option maxHeartbeats 1000000 in
theorem rset_no (X t : Tx) (b : Nat) (v : Value) (r : T) (w : World) (hx0 : X ≠ nFREQ) (hx1 : X ≠ nINTERVAL) (hx2 : X ≠ nCOUNT) (hx3 : X ≠ nUNTIL) (hx4 : X ≠ nBYMONTH) (hx5 : X ≠ nBYMONTHDAY) (hx6 : X ≠ nBYDAY) :
  Calls Tryz.prog 121 #[.pointer (some ⟨b,0,none⟩),.string (str X),.string (str t)] w (Takes w b v r (Rt.valOf unU rdR X t)):=by
 have HN : Hid (Rt.valOf unU rdR X t = none):=hide (by unfold Rt.valOf; rw [if_neg hx0,if_neg hx1,if_neg hx2,if_neg hx3,if_neg hx4,if_neg hx5,if_neg hx6])
 have e0 : (X == [70,82,69,81]) = false:=by rw [tx_eq]; exact decide_eq_false hx0
 have e1 : (X == [73,78,84,69,82,86,65,76]) = false:=by rw [tx_eq]; exact decide_eq_false hx1
 have e2 : (X == [67,79,85,78,84]) = false:=by rw [tx_eq]; exact decide_eq_false hx2
 have e3 : (X == [85,78,84,73,76]) = false:=by rw [tx_eq]; exact decide_eq_false hx3
 have e4 : (X == [66,89,77,79,78,84,72]) = false:=by rw [tx_eq]; exact decide_eq_false hx4
 have e5 : (X == [66,89,77,79,78,84,72,68,65,89]) = false:=by rw [tx_eq]; exact decide_eq_false hx5
 have e6 : (X == [66,89,68,65,89]) = false:=by rw [tx_eq]; exact decide_eq_false hx6
 have q1:=str_tl X
 rw [HN.out]
 clear hx0 hx1 hx2 hx3 hx4 hx5 hx6
 go_enter Tryz.func121,Tryz.ntmps121
 go_wp2_with fail
 go_ret
 exact ⟨grown_below (start _),rfl⟩
theorem rset_any (X t : Tx) (b : Nat) (v : Value) (r : T) (D M Y : Option Addr) (dn dc mn mc yn yc : Nat) (w : World) (h : RuleAt w b v r D dn dc M mn mc Y yn yc) (hv : ∀ g,v.ownBlock = some g → g < w.heap.size) (ht : t.length ≤ 900) :
  Calls Tryz.prog 121 #[.pointer (some ⟨b,0,none⟩),.string (str X),.string (str t)] w (Takes w b v r (Rt.valOf unU rdR X t)):=by
 by_cases h0 : X = nFREQ
 ·subst h0; exact rset_0 t b v r D M Y dn dc mn mc yn yc w h hv ht
 by_cases h1 : X = nINTERVAL
 ·subst h1; exact rset_1 t b v r D M Y dn dc mn mc yn yc w h hv ht
 by_cases h2 : X = nCOUNT
 ·subst h2; exact rset_2 t b v r D M Y dn dc mn mc yn yc w h hv ht
 by_cases h3 : X = nUNTIL
 ·subst h3; exact rset_3 t b v r D M Y dn dc mn mc yn yc w h hv ht
 by_cases h4 : X = nBYMONTH
 ·subst h4; exact rset_4 t b v r D M Y dn dc mn mc yn yc w h hv ht
 by_cases h5 : X = nBYMONTHDAY
 ·subst h5; exact rset_5 t b v r D M Y dn dc mn mc yn yc w h hv ht
 by_cases h6 : X = nBYDAY
 ·subst h6; exact rset_6 t b v r D M Y dn dc mn mc yn yc w h hv ht
 exact rset_no X t b v r w h0 h1 h2 h3 h4 h5 h6

end Go.Proofs.YtgdjeddelcfgeaaGreatDoor
namespace Go.Proofs.YtgdjeddelcfgeaaGreatDoor
open Go.RowKit Rul Rt Go.Sort

def readR (U : Un) (l : List Tx) : Option T:=match allSome (partR U) l with
 | none => none
 | some ps => if (ps.map tag).Nodup then some (fold ps) else none
theorem readR_none {U : Un} {l : List Tx} {j : Nat} (hlt : j < l.length) (h : partR U l[j] = none) : readR U l = none:=by
 unfold readR; rw [none_at hlt h]
theorem readR_some {U : Un} {l : List Tx} {ps : List Rt.Part} (h : allSome (partR U) l = some ps) (hn : (ps.map tag).Nodup) : readR U l = some (fold ps):=by
 unfold readR; rw [h]; simp only; rw [if_pos hn]
theorem partR_cut {U : Un} {t a v : Tx} (h : cutAt 61 t = [a,v]) : partR U t = Rt.valOf U rdR a v:=by unfold partR; rw [h]
theorem partR_uncut {U : Un} {t : Tx} (h : (cutAt 61 t).length ≠ 2) : partR U t = none:=by
 unfold partR
 match cutAt 61 t,h with
 | [],_ => rfl
 | [_],_ => rfl
 | [_,_],h => exact absurd rfl h
 | _ :: _ :: _ :: _,_ => rfl
theorem readR_dup {U : Un} {l : List Tx} {j : Nat} {ps : List Rt.Part} {a v : Tx} (hlt : j < l.length) (hA : allSome (partR U) (l.take j) = some ps) (hc : cutAt 61 l[j] = [a,v]) (hm : a ∈ ps.map nameOf) : readR U l = none:=by
 cases hx : Rt.valOf U rdR a v with
 | none => exact readR_none hlt (by rw [partR_cut hc]; exact hx)
 | some p =>
  have hn:=val_name hx
  subst hn
  have h1:=some_step hlt hA (by rw [partR_cut hc]; exact hx)
  unfold readR
  cases hq : allSome (partR U) l with
  | none => rfl
  | some qs =>
   simp only
   rw [if_neg]
   intro hd
   have h2:=allSome_take l qs (j + 1) hq
   rw [h1] at h2
   injection h2 with h2
   have h3 : ((ps ++ [p]).map tag).Nodup:=by rw [h2,List.map_take]; exact List.Nodup.sublist (List.take_sublist _ _) hd
   rw [List.map_append,List.nodup_append] at h3
   obtain ⟨q,hq1,hq2⟩:=List.mem_map.1 hm
   exact h3.2.2 (tag q) (List.mem_map.2 ⟨q,hq1,rfl⟩) (tag p) (by simp) ((name_tag q p).1 hq2)
theorem ansR_none {U : Un} {s : Tx} (h : readR U (cutAt 59 s) = none) : ansR U s = none:=by
 unfold ansR ans
 unfold readR at h
 cases hq : allSome (partR U) (cutAt 59 s) with
 | none => rfl
 | some ps =>
  rw [hq] at h
  simp only at h ⊢
  split at h
  ·cases h
  ·rename_i hn; rw [if_neg (fun g => hn g.1)]
theorem ansR_zero {U : Un} {s : Tx} {r : T} (h : readR U (cutAt 59 s) = some r) (h0 : r.fr = 0 ∨ isB r = false) : ansR U s = none:=by
 unfold ansR ans
 unfold readR at h
 cases hq : allSome (partR U) (cutAt 59 s) with
 | none => rw [hq] at h; try cases h
 | some ps =>
  rw [hq] at h
  simp only at h ⊢
  split at h
  ·injection h with h
   rw [if_neg]
   rintro ⟨_,hb⟩
   rcases h0 with h0 | h0
   ·have:=(rec_facts (fold_rec (evs (fun t n => partR_ev) hq) hb)).f1
    rw [h,h0] at this; omega
   ·rw [h,h0] at hb; cases hb
  ·cases h
theorem ansR_rule {U : Un} {s : Tx} {r : T} (h : readR U (cutAt 59 s) = some r) (h0 : isB r = true) : ansR U s = some r:=by
 unfold ansR ans
 unfold readR at h
 cases hq : allSome (partR U) (cutAt 59 s) with
 | none => rw [hq] at h; try cases h
 | some ps =>
  rw [hq] at h
  simp only at h ⊢
  split at h
  ·rename_i hn
   injection h with h
   rw [h,if_pos ⟨hn,h0⟩]
  ·cases h
theorem grown_cell {w w1 : World} {b X i : Nat} {u : Value} (hg : w.grownBy w1 (some X)) (hne : b ≠ X) (h : w.cell? ⟨b,i,none⟩ = some u) : w1.cell? ⟨b,i,none⟩ = some u:=hg.cell h (fun e => hne (by injection e))

theorem RowS.grown {w w1 : World} {A : Option Addr} {l : List Tx} {row : Option Nat} (h : RowS w A l) (g : w.grownBy w1 row) (ho : ∀ b o,A = some ⟨b,o,none⟩ → some b ≠ row) : RowS w1 A l:=fun hn => by
 obtain ⟨b,o,rfl,hl,hc⟩:=h hn
 exact ⟨b,o,rfl,Nat.lt_of_lt_of_le hl g.size,fun i hi => g.cell (hc i hi) (ho b o rfl)⟩

set_option maxRecDepth 100000 in
set_option maxHeartbeats 8000000 in
theorem rread_any (s : ByteArray) (w : World) (hs : s.size ≤ 800) :
  Calls Tryz.prog 86 #[.string s] w (ReadA w (ansR unU s.data.toList)):=by
 have HNO:=hide (fun h => ansR_none (U:=unU) (s:=s.data.toList) h)
 have HZO:=hide (fun r h k => ansR_zero (U:=unU) (s:=s.data.toList) (r:=r) h k)
 have HRO:=hide (fun r h k => ansR_rule (U:=unU) (s:=s.data.toList) (r:=r) h k)
 obtain ⟨O,hO⟩ : ∃ O,ansR unU s.data.toList = O:=⟨_,rfl⟩
 rw [hO] at HNO HZO HRO ⊢
 have hcl:=cutAt_len 59 s.data.toList
 have hcs:=cutAt_sub 59 s.data.toList
 rw [len_of] at hcl hcs
 have HC0:=hide (fun w => rCut_any s 59 59 w rfl (by omega))
 generalize cutAt 59 s.data.toList = l at *
 have HCS:=hide hcs
 clear hO hcs
 have HZ:=hide ((rule_new w 25).keep (more (start _) (.cells #[.int .i64 0,.int .i64 1,.int .i64 0,.int .i64 (-1),.slice none 0 0,.slice none 0 0,.slice none 0 0] 25)))
 have HX:=hide (rule_r0 (w.alloc (.cells #[.int .i64 0,.int .i64 0,.int .i64 0,.int .i64 0,.slice none 0 0,.slice none 0 0,.slice none 0 0] 25)) 25)
 have HZB:=hide (more (more (start w) (.cells #[.int .i64 0,.int .i64 0,.int .i64 0,.int .i64 0,.slice none 0 0,.slice none 0 0,.slice none 0 0] 25)) (.cells #[.int .i64 0,.int .i64 1,.int .i64 0,.int .i64 (-1),.slice none 0 0,.slice none 0 0,.slice none 0 0] 25))
 go_enter Tryz.func86,Tryz.ntmps86
 go_wp2_with fail
 refine (HC0.out _).mono ?_
 rintro e w1 ⟨v,rfl,hown,hb1⟩
 replace HZ:=hide (HZ.out.keep hb1)
 replace HX:=hide (HX.out.keep hb1)
 replace HZB:=hide (andthen HZB.out hb1)
 obtain ⟨A,cap,rfl,hrow,hcap⟩:=OwnS.row hown
 have HR:=hide hrow
 obtain ⟨B1,hB1⟩ : ∃ B1,w1.heap.size = B1:=⟨_,rfl⟩
 have HRB : Hid (∀ b o,A = some ⟨b,o,none⟩ → w.heap.size + 1 < b ∧ b < B1):=hide (fun b o e => by
  subst e
  have h1:=hown.lt b rfl
  simp only [World.size_alloc] at h1
  omega)
 have hXB : w.heap.size + 1 < B1:=by have:=hb1.size; simp only [World.size_alloc] at this; omega
 rw [World.size_alloc] at HX
 obtain ⟨X,hX⟩ : ∃ X,w.heap.size + 1 = X:=⟨_,rfl⟩
 rw [hX] at HX HRB hXB ⊢
 have hX0 : w.heap.size < X:=by omega
 clear hown hrow hb1 hX
 go_wp2_with fail
 go_loopw [6,7,8,9] (fun v i _ _ wr => ∃ (j : Nat) (ps : List Rt.Part) (D : Option Addr) (dn dc : Nat) (M : Option Addr) (mn mc : Nat) (Y : Option Addr) (yn yc : Nat),j ≤ l.length ∧ i = .int .i64 j ∧ OwnS wr B1 v (ps.map nameOf) ∧ RuleAt wr X v (fold ps) D dn dc M mn mc Y yn yc ∧ RuleAt wr w.heap.size v ⟨0,0,0,0,[],[],[]⟩ none 0 0 none 0 0 none 0 0 ∧ Hid (allSome (partR unU) (l.take j) = some ps) ∧ Hid ((ps.map tag).Nodup) ∧ RowS wr A l ∧ B1 ≤ wr.heap.size ∧ Below w.heap.size w wr) (fun _ i _ _ _ => l.length - (intOf i).toNat)
 case atStart => exact ⟨0,[],_,_,_,_,_,_,_,_,_,Nat.zero_le _,rfl,ownS_nil _ _,HX.out,HZ.out,hide rfl,hide List.nodup_nil,HR.out,Nat.le_of_eq hB1.symm,HZB.out⟩
 case round =>
  obtain ⟨j,ps,D,dn,dc,M,mn,mc,Y,yn,yc,hj,rfl,hown,hx,hz,HA,HN,hrow,hsz,hbw⟩:=hrel
  have HO:=hide hown
  have HXr:=hide hx
  have HZr:=hide hz
  have HBR:=hide hbw
  have HRr:=hide hrow
  clear hown hx hz hbw hrow HX HZ HZB HR
  by_cases hlt : j < l.length
  ·obtain ⟨b1,o1,rfl,hb1,hc1⟩:=HRr.out (by intro h0; rw [h0] at hlt; exact absurd hlt (Nat.not_lt_zero _))
   obtain ⟨T,hm⟩ : ∃ T,l[j] = T:=⟨_,rfl⟩
   have hT : T.length ≤ 800:=by rw [← hm]; exact Nat.le_trans (HCS.out _ (List.getElem_mem hlt)) hs
   have p1 : wr.cell? ⟨b1,o1 + j,none⟩ = some (.string (str T)):=by rw [← hm]; exact hc1 j hlt
   have hi0 : (0 : Int) ≤ (j : Int):=by omega
   have hi1 : (j : Int) < (l.length : Int):=by omega
   have HC:=hide (fun w => rCut_any (str T) 61 61 w rfl (by rw [str_size]; omega))
   rw [str_list] at HC
   have hls:=cutAt_sub 61 T
   have hll:=cutAt_len 61 T
   have hpl : (ps.map nameOf).length ≤ 1000:=by have:=allSome_len HA.out; rw [List.length_take] at this; rw [List.length_map]; omega
   have HM:=hide hm
   clear hc1 hm
   obtain ⟨Q,hQ⟩ : ∃ Q,cutAt 61 T = Q:=⟨_,rfl⟩
   rw [hQ] at HC hls hll
   have HQ:=hide hQ
   clear hQ
   go_wp2_with fail
   refine (HC.out _).mono ?_
   rintro e w2 ⟨v2,rfl,hown2,hb2⟩
   obtain ⟨A2,cap2,rfl,hrow2,_⟩:=OwnS.row hown2
   have hoff : ∀ b o,A2 = some ⟨b,o,none⟩ → wr.heap.size ≤ b:=fun b o e => by subst e; exact (hown2.lt b rfl).1
   have hXr:=HXr.out.lt
   replace hsz:=Nat.le_trans hsz hb2.size
   replace HZr:=hide (HZr.out.keep hb2)
   replace HXr:=hide (HXr.out.keep hb2)
   replace HO:=hide (HO.out.keep hb2)
   replace HRr:=hide (HRr.out.keep hb2)
   replace HBR:=hide (andthen HBR.out hb2)
   have HRP:=hide hrow2
   clear hb2 p1 hown2 hrow2
   by_cases hlen : Q.length = 2
   ·obtain ⟨a,u,rfl⟩ : ∃ a u,Q = [a,u]:=by
     match Q,hlen with
     | [a,u],_ => exact ⟨a,u,rfl⟩
    have hul : u.length ≤ 900:=Nat.le_trans (hls u (by simp)) (by omega)
    obtain ⟨bp,op,rfl,hbp,hcp⟩:=HRP.out (by simp)
    have P0:=hcp 0 (by simp)
    have P1:=hcp 1 (by simp)
    simp only [List.getElem_cons_zero,List.getElem_cons_succ,Nat.add_zero] at P0 P1
    have hbX : bp ≠ X:=by have:=hoff bp op rfl; omega
    obtain ⟨P,hP⟩ : ∃ P,Rt.valOf unU rdR a u = P:=⟨_,rfl⟩
    have HST:=hide (fun w v h hv => rset_any a u X v (fold ps) D M Y dn dc mn mc yn yc w h hv hul)
    rw [hP] at HST
    simp only [List.length_cons,List.length_nil]
    clear hcp hls hll hlen
    go_wp2_with fail
    cases P with
    | none =>
     have HF:=hide (HNO.out (readR_none (U:=unU) hlt (by rw [HM.out,partR_cut HQ.out]; exact hP)))
     clear hP
     go_region_held3 (fun w' => w'.cell? ⟨bp,op,none⟩ = some (.string (str a)) ∧ w'.cell? ⟨bp,op + 1,none⟩ = some (.string (str u))) (first | with_reducible exact ⟨cell_keep (start _).drew P0,cell_keep (start _).drew P1⟩ | with_reducible exact ⟨by assumption,by assumption⟩ | with_reducible exact ⟨cell_keep (start _).drew (by assumption),cell_keep (start _).drew (by assumption)⟩) ((go_at_call 121; (with_reducible refine (HST.out _ _ (HXr.out.keep (start _).drew) (fun g e => Nat.lt_of_lt_of_le (HO.out.lt g e).2 (start _).drew.size)).mono ?_); rintro e w3 ⟨hg,rfl⟩; have G0:=grown_cell hg hbX (cell_keep (start _).drew P0); have G1:=grown_cell hg hbX (cell_keep (start _).drew P1)))
     replace HZr:=hide ((HZr.out.keep (start _).drew).aside hg (Nat.ne_of_lt hX0))
     replace HBR:=hide ((andthen HBR.out (start _).drew).grown hg (andthen HBR.out (start w2).drew).size fun k hk => (by injection hk with hk; omega))
     clear hg G0 G1 HXr HO P0 P1
     have z0:=HZr.out.c0
     have z1:=HZr.out.c1
     have z2:=HZr.out.c2
     have z3:=HZr.out.c3
     have z4:=HZr.out.c4
     have z5:=HZr.out.c5
     have z6:=HZr.out.c6
     have f0:=HZr.out.f0
     have f1:=HZr.out.f1
     have f2:=HZr.out.f2
     have f3:=HZr.out.f3
     have f4:=HZr.out.f4
     have f5:=HZr.out.f5
     have f6:=HZr.out.f6
     have hlz:=HZr.out.lt
     go_wp2_with fail
     refine ret_gen (ZeroAt w) (zero_7 HZr.out HBR.out) ?_
     rintro WF ⟨⟨c0,c1,c2,c3,c4,c5,c6⟩,hb⟩
     exact bodyPost_ret (v:=.tuple #[noRule,.bool false]) (by simp [results,Tryz.results86,go_sem,c0,c1,c2,c3,c4,c5,c6,noRule]) rfl ⟨hb,Or.inl ⟨HF.out,rfl⟩⟩
    | some p =>
     go_region_held3 (fun w' => w'.cell? ⟨bp,op,none⟩ = some (.string (str a)) ∧ w'.cell? ⟨bp,op + 1,none⟩ = some (.string (str u))) (first | with_reducible exact ⟨cell_keep (start _).drew P0,cell_keep (start _).drew P1⟩ | with_reducible exact ⟨by assumption,by assumption⟩ | with_reducible exact ⟨cell_keep (start _).drew (by assumption),cell_keep (start _).drew (by assumption)⟩) ((go_at_call 121; (with_reducible refine (HST.out _ _ (HXr.out.keep (start _).drew) (fun g e => Nat.lt_of_lt_of_le (HO.out.lt g e).2 (start _).drew.size)).mono ?_); rintro e w3 ⟨hg,rfl,D',dn',dc',M',mn',mc',Y',yn',yc',hr⟩; have G0:=grown_cell hg hbX (cell_keep (start _).drew P0); have G1:=grown_cell hg hbX (cell_keep (start _).drew P1)))
     have HPN : Hid (a = nameOf p):=hide (val_name hP)
     have HVAL:=hide hP
     replace HZr:=hide ((HZr.out.keep (start _).drew).aside hg (Nat.ne_of_lt hX0))
     replace HBR:=hide ((andthen HBR.out (start _).drew).grown hg (andthen HBR.out (start w2).drew).size fun k hk => (by injection hk with hk; omega))
     replace HRr:=hide ((HRr.out.keep (start _).drew).grown hg fun b o e h => (by injection h with h; have:=HRB.out b o e; omega))
     have hown3 : OwnS w3 B1 _ (ps.map nameOf):=World.ownsRow.kept (HO.out.keep (start _).drew) hg (Or.inr fun e => by have:=(HO.out.lt X e).1; omega)
     replace HO:=hide hown3
     have HRN:=hide hr
     have hbp3 : bp < w3.heap.size:=block_lt_of_cell G0
     replace hsz:=Nat.le_trans hsz (Nat.le_trans (start w2).drew.size hg.size)
     have HG0:=hide G0
     clear hg G1 HXr P0 P1 hP hr hown3 HST
     obtain ⟨A3,cap3,rfl,hrow3,hcap3⟩:=OwnS.row HO.out
     have HN3:=hide hrow3
     rw [List.length_map] at HO HRN HZr
     rw [List.length_map]
     clear hrow3
     go_wp2_with fail
     go_loopw [9] (fun i wr => ∃ q : Nat,q ≤ ps.length ∧ i = .int .i64 q ∧ Hid (∀ i (hi : i < (ps.map nameOf).length),i < q → (ps.map nameOf)[i] ≠ a) ∧ Below w3.heap.size w3 wr) (fun i _ => ps.length - (intOf i).toNat)
     case atStart => exact ⟨0,Nat.zero_le _,rfl,hide (fun i hi h => absurd h (Nat.not_lt_zero _)),start _⟩
     case round =>
      obtain ⟨q,hq,rfl,HNE,hbq⟩:=hrel
      have HBQ:=hide hbq
      clear hbq
      have g0:=(HBQ.out.cell (p:=⟨bp,op,none⟩) hbp3).trans HG0.out
      by_cases hqt : q < ps.length
      ·have hqm : q < (ps.map nameOf).length:=by rw [List.length_map]; exact hqt
       obtain ⟨b3,o3,rfl,hb3,hc3⟩:=HN3.out (by intro h0; rw [h0] at hqm; exact absurd hqm (Nat.not_lt_zero _))
       have p3:=(HBQ.out.cell (p:=⟨b3,o3 + q,none⟩) hb3).trans (hc3 q hqm)
       have hi2 : (0 : Int) ≤ (q : Int):=by omega
       have hi3 : (q : Int) < (ps.length : Int):=by omega
       obtain ⟨NM,hNM⟩ : ∃ NM,(ps.map nameOf)[q] = NM:=⟨_,rfl⟩
       rw [hNM] at p3
       have r0:=fun d os => cell_regrown g0 d os
       have r1:=fun d os => cell_regrown p3 d os
       have s1:=str_tl NM
       have s2:=str_tl a
       clear hc3
       by_cases he : NM = a
       ·have e1 : (NM == a) = true:=by rw [tx_eq]; exact decide_eq_true he
        have HF:=hide (HNO.out (readR_dup (U:=unU) hlt HA.out (by rw [HM.out]; exact HQ.out) (by rw [← he,← hNM]; exact List.getElem_mem hqm)))
        replace HZr:=hide (HZr.out.keep HBQ.out)
        replace HBR:=hide (andthen HBR.out HBQ.out)
        clear he hNM g0 p3
        go_wp2_with fail
        refine wp_region_quiet_below (by kernel_rfl) (by kernel_rfl) ?_
        repeat (first | go_big_quiet_step ((fail)) | quiet_step ((fail)))
        refine wpQuiet_nil ?_
        intro _ hw'
        obtain ⟨⟨nq,osq⟩,hw''⟩:=hw'
        subst hw''
        have hq2:=below_regrown wr nq osq
        generalize grow (redrawn wr nq) osq = wr2 at *
        replace HZr:=hide (HZr.out.keep hq2)
        replace HBR:=hide (andthen HBR.out hq2)
        clear hq2 r0 r1
        have z0:=HZr.out.c0
        have z1:=HZr.out.c1
        have z2:=HZr.out.c2
        have z3:=HZr.out.c3
        have z4:=HZr.out.c4
        have z5:=HZr.out.c5
        have z6:=HZr.out.c6
        have f0:=HZr.out.f0
        have f1:=HZr.out.f1
        have f2:=HZr.out.f2
        have f3:=HZr.out.f3
        have f4:=HZr.out.f4
        have f5:=HZr.out.f5
        have f6:=HZr.out.f6
        have hlz:=HZr.out.lt
        go_wp2_with fail
        refine ret_gen (ZeroAt w) (zero_7 HZr.out HBR.out) ?_
        rintro WF ⟨⟨c0,c1,c2,c3,c4,c5,c6⟩,hb⟩
        exact bodyPost_ret (v:=.tuple #[noRule,.bool false]) (by simp [results,Tryz.results86,go_sem,c0,c1,c2,c3,c4,c5,c6,noRule]) rfl ⟨hb,Or.inl ⟨HF.out,rfl⟩⟩
       ·have e1 : (NM == a) = false:=by rw [tx_eq]; exact decide_eq_false he
        have HNN : Hid (∀ i (hi : i < (ps.map nameOf).length),i < q + 1 → (ps.map nameOf)[i] ≠ a):=hide (fun i hi hij => by
         rcases Nat.lt_or_ge i q with g | g
         ·exact HNE.out i hi g
         ·obtain rfl : i = q:=by omega
          rw [hNM]; exact he)
        clear he hNM g0 p3
        go_wp2_with fail
        refine wp_region_quiet_below (by kernel_rfl) (by kernel_rfl) ?_
        repeat (first | go_big_quiet_step ((fail)) | quiet_step ((fail)))
        refine wpQuiet_nil ?_
        intro _ hw'
        obtain ⟨⟨nq,osq⟩,hw''⟩:=hw'
        subst hw''
        have hq2:=below_regrown wr nq osq
        generalize grow (redrawn wr nq) osq = wr2 at *
        replace HBQ:=hide (andthen HBQ.out hq2)
        clear hq2 r0 r1
        go_wp2_with fail
        go_roundw
        case rel => exact ⟨q + 1,by omega,by go_num,HNN,HBQ.out⟩
        case measure => simp [intOf]; omega
      ·obtain rfl : q = ps.length:=by omega
       have hmem : a ∉ ps.map nameOf:=fun h => by
        obtain ⟨i,hi,e⟩:=List.getElem_of_mem h
        exact HNE.out i hi (by rw [List.length_map] at hi; exact hi) e
       replace HZr:=hide (HZr.out.keep HBQ.out)
       replace HRN:=hide (HRN.out.keep HBQ.out)
       replace HRr:=hide (HRr.out.keep HBQ.out)
       replace HO:=hide (HO.out.keep HBQ.out)
       replace HBR:=hide (andthen HBR.out HBQ.out)
       have HSTP:=hide (some_step hlt HA.out (by rw [HM.out,partR_cut HQ.out]; exact HVAL.out))
       have HND:=hide (nodup_snoc HN.out (p:=p) (by rw [← HPN.out]; exact hmem))
       have hown3:=HO.out
       have hz3 : B1 ≤ wr.heap.size:=Nat.le_trans hsz HBQ.out.size
       have hl3 : (ps.map nameOf).length ≤ 1000000:=by omega
       clear hmem
       go_wp2_with (at_builtin; refine wp_oneT (l:=ps.map nameOf) (p:=a) rfl _ _ rfl rfl rfl rfl hown3 hz3 hl3 ?_; intro v4 w4 hown4 hg4)
       have hsz4:=Nat.le_trans hz3 hg4.grown.size
       replace HBR:=hide (HBR.out.grown hg4.grown HBR.out.size fun k hk => (by have:=(hown3.lt k hk).1; omega))
       have HR4r:=hide (HRr.out.grown hg4.grown fun b o e h => (by have:=(hown3.lt b h.symm).1; have:=HRB.out b o e; omega))
       rw [HPN.out] at hown4
       have hb4 : (ps ++ [p]).map nameOf = ps.map nameOf ++ [nameOf p]:=by simp
       have HO4:=hide hown4
       rw [← hb4] at HO4
       have hf4 : fold (ps ++ [p]) = Rt.Part.set (fold ps) p:=by simp [fold]
       have HR4:=hide (HRN.out.goes hg4)
       rw [← hf4] at HR4
       have HZ4:=hide (HZr.out.goes hg4)
       clear hown4 hg4 hown3 hz3 hl3 hb4 hf4 HRN HZr HRr
       go_wp2_with fail
       go_roundw
       case rel => exact ⟨j + 1,ps ++ [p],_,_,_,_,_,_,_,_,_,by omega,by go_num,HO4.out,HR4.out,HZ4.out,HSTP,HND,HR4r.out,hsz4,HBR.out⟩
       case measure => simp [intOf]; omega
   ·have HF:=hide (HNO.out (readR_none (U:=unU) hlt (by rw [HM.out]; exact partR_uncut (by rw [HQ.out]; exact hlen))))
    have e1 : ((Q.length : Int) != 2) = true:=by simp; omega
    have e2 : (Q.length != 2) = true:=by simpa using hlen
    have e3 : ((Q.length : Int) == 2) = false:=beq_eq_false_iff_ne.2 (by omega)
    have e4 : (Q.length == 2) = false:=beq_eq_false_iff_ne.2 (by omega)
    clear hls hll hlen
    go_wp2_with fail
    refine wp_region_quiet_below (by kernel_rfl) (by kernel_rfl) ?_
    repeat (first | go_big_quiet_step ((fail)) | quiet_step ((fail)))
    refine wpQuiet_nil ?_
    intro _ hw'
    obtain ⟨⟨nq,osq⟩,hw''⟩:=hw'
    subst hw''
    have hq2:=below_regrown w2 nq osq
    generalize grow (redrawn w2 nq) osq = w3 at *
    replace HZr:=hide (HZr.out.keep hq2)
    replace HBR:=hide (andthen HBR.out hq2)
    clear hq2
    have z0:=HZr.out.c0
    have z1:=HZr.out.c1
    have z2:=HZr.out.c2
    have z3:=HZr.out.c3
    have z4:=HZr.out.c4
    have z5:=HZr.out.c5
    have z6:=HZr.out.c6
    have f0:=HZr.out.f0
    have f1:=HZr.out.f1
    have f2:=HZr.out.f2
    have f3:=HZr.out.f3
    have f4:=HZr.out.f4
    have f5:=HZr.out.f5
    have f6:=HZr.out.f6
    have hlz:=HZr.out.lt
    go_wp2_with fail
    refine ret_gen (ZeroAt w) (zero_7 HZr.out HBR.out) ?_
    rintro WF ⟨⟨c0,c1,c2,c3,c4,c5,c6⟩,hb⟩
    exact bodyPost_ret (v:=.tuple #[noRule,.bool false]) (by simp [results,Tryz.results86,go_sem,c0,c1,c2,c3,c4,c5,c6,noRule]) rfl ⟨hb,Or.inl ⟨HF.out,rfl⟩⟩
  ·obtain rfl : j = l.length:=by omega
   rw [List.take_length] at HA
   have hrd:=readR_some HA.out HN.out
   have c0:=HXr.out.c0
   have c1:=HXr.out.c1
   have c2:=HXr.out.c2
   have c3:=HXr.out.c3
   have c4:=HXr.out.c4
   have c5:=HXr.out.c5
   have c6:=HXr.out.c6
   by_cases h0 : (fold ps).fr = 0
   ·have HF:=hide (HZO.out _ hrd (Or.inl h0))
    have q0 : ((fold ps).fr == 0) = true:=beq_iff_eq.2 h0
    clear hrd h0
    have z0:=HZr.out.c0
    have z1:=HZr.out.c1
    have z2:=HZr.out.c2
    have z3:=HZr.out.c3
    have z4:=HZr.out.c4
    have z5:=HZr.out.c5
    have z6:=HZr.out.c6
    have f0:=HZr.out.f0
    have f1:=HZr.out.f1
    have f2:=HZr.out.f2
    have f3:=HZr.out.f3
    have f4:=HZr.out.f4
    have f5:=HZr.out.f5
    have f6:=HZr.out.f6
    have hlz:=HZr.out.lt
    go_wp2_with fail
    refine ret_gen (ZeroAt w) (zero_7 HZr.out HBR.out) ?_
    rintro WF ⟨⟨c0,c1,c2,c3,c4,c5,c6⟩,hb⟩
    exact bodyPost_ret (v:=.tuple #[noRule,.bool false]) (by simp [results,Tryz.results86,go_sem,c0,c1,c2,c3,c4,c5,c6,noRule]) rfl ⟨hb,Or.inl ⟨HF.out,rfl⟩⟩
   ·have q0 : ((fold ps).fr == 0) = false:=beq_eq_false_iff_ne.2 h0
    have HI:=hide (fun w h => R.is_any (fold ps).fr (fold ps).ev (fold ps).ct (fold ps).un D M Y dn dc mn mc yn yc (fold ps).ds (fold ps).ms (fold ps).ys w h)
    obtain ⟨B,hB⟩ : ∃ B,isB (fold ps) = B:=⟨_,rfl⟩
    have hB2 : isB ⟨(fold ps).fr,(fold ps).ev,(fold ps).ct,(fold ps).un,(fold ps).ds,(fold ps).ms,(fold ps).ys⟩ = B:=hB
    rw [hB2] at HI
    clear hB2 h0
    cases B with
    | false =>
     have HF:=hide (HZO.out _ hrd (Or.inr hB))
     clear hrd hB
     go_wp2_with fail
     refine (HI.out _ HXr.out.lies).mono ?_
     rintro e w2 ⟨rfl,hb2⟩
     replace HZr:=hide (HZr.out.keep hb2)
     replace HBR:=hide (andthen HBR.out hb2)
     clear hb2
     have z0:=HZr.out.c0
     have z1:=HZr.out.c1
     have z2:=HZr.out.c2
     have z3:=HZr.out.c3
     have z4:=HZr.out.c4
     have z5:=HZr.out.c5
     have z6:=HZr.out.c6
     have f0:=HZr.out.f0
     have f1:=HZr.out.f1
     have f2:=HZr.out.f2
     have f3:=HZr.out.f3
     have f4:=HZr.out.f4
     have f5:=HZr.out.f5
     have f6:=HZr.out.f6
     have hlz:=HZr.out.lt
     go_wp2_with fail
     refine ret_gen (ZeroAt w) (zero_7 HZr.out HBR.out) ?_
     rintro WF ⟨⟨c0,c1,c2,c3,c4,c5,c6⟩,hb⟩
     exact bodyPost_ret (v:=.tuple #[noRule,.bool false]) (by simp [results,Tryz.results86,go_sem,c0,c1,c2,c3,c4,c5,c6,noRule]) rfl ⟨hb,Or.inl ⟨HF.out,rfl⟩⟩
    | true =>
     have HF:=hide (HRO.out _ hrd hB)
     clear hrd hB
     go_wp2_with fail
     refine (HI.out _ HXr.out.lies).mono ?_
     rintro e w2 ⟨rfl,hb2⟩
     replace HZr:=hide (HZr.out.keep hb2)
     replace HXr:=hide (HXr.out.keep hb2)
     replace HBR:=hide (andthen HBR.out hb2)
     replace c0:=HXr.out.c0
     replace c1:=HXr.out.c1
     replace c2:=HXr.out.c2
     replace c3:=HXr.out.c3
     replace c4:=HXr.out.c4
     replace c5:=HXr.out.c5
     replace c6:=HXr.out.c6
     have HCP:=hide (HZr.out.copy HXr.out hX0)
     have z0:=HZr.out.c0
     have z1:=HZr.out.c1
     have z2:=HZr.out.c2
     have z3:=HZr.out.c3
     have z4:=HZr.out.c4
     have z5:=HZr.out.c5
     have z6:=HZr.out.c6
     have f0:=HZr.out.f0
     have f1:=HZr.out.f1
     have f2:=HZr.out.f2
     have f3:=HZr.out.f3
     have f4:=HZr.out.f4
     have f5:=HZr.out.f5
     have f6:=HZr.out.f6
     have hlz:=HZr.out.lt
     have hlx:=HXr.out.lt
     clear hb2
     go_wp2_with fail
     refine ret_gen (RuleIn w (fold ps) D dn dc M mn mc Y yn yc) ⟨_,HCP.out,below_7 HBR.out (Nat.le_refl _)⟩ ?_
     rintro WF ⟨_,hr,hb⟩
     exact bodyPost_ret (v:=.tuple #[ruleV (fold ps) D dn dc M mn mc Y yn yc,.bool true]) (by simp [results,Tryz.results86,go_sem,hr.c0,hr.c1,hr.c2,hr.c3,hr.c4,hr.c5,hr.c6,ruleV]) rfl ⟨hb,Or.inr ⟨_,_,_,_,_,_,_,_,_,_,HF.out,rfl,hr.bare⟩⟩

end Go.Proofs.YtgdjeddelcfgeaaGreatDoor

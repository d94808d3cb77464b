/- Walks of the document's reading of an event: hostelryref8's Read. -/
import Derived.Test.YtgdjeddelcfgeaaGreatDoorXEvRS
import Derived.Test.YtgdjeddelcfgeaaGreatDoorXLiD
import Derived.Test.YtgdjeddelcfgeaaGreatDoorXEvK
namespace Go.Proofs.YtgdjeddelcfgeaaGreatDoor
open Go.RowKit Rul Rt Go.Sort

def firstR (U : Un) (r : List Tx) (o : Option (Tx × Tx)) : Option Ev.E × Nat:=match o with
 | none => (none,0)
 | some (n,v) => if n = Ev.nBEGIN ∧ Li.capE v = Ev.wEV then Ev.goE U 1 Ev.e0 [] r else (none,0)
theorem read_first {U : Un} {l : List Tx} (h : 0 < l.length) : Ev.readE U l = firstR U (l.drop 1) (Li.lineE l[0]):=by
 cases l with
 | nil => exact absurd h (Nat.lt_irrefl _)
 | cons a t => rfl
theorem firstR_yes {U : Un} {r : List Tx} {n v : Tx} (h : n = Ev.nBEGIN ∧ Li.capE v = Ev.wEV) : firstR U r (some (n,v)) = Ev.goE U 1 Ev.e0 [] r:=if_pos h
theorem firstR_no {U : Un} {r : List Tx} {n v : Tx} (h : ¬ (n = Ev.nBEGIN ∧ Li.capE v = Ev.wEV)) : firstR U r (some (n,v)) = (none,0):=if_neg h
def seenV (seen : List Tx) : List Value:=kN.map fun n => .bool (decide (n ∈ seen))
theorem seen_len (seen : List Tx) : (seenV seen).length = 7:=rfl
theorem seen_at {seen : List Tx} {N : Tx} {j : Nat} (h : kN[j]? = some N) : ∃ h : j < (seenV seen).length,(seenV seen)[j] = .bool (decide (N ∈ seen)):=by
 obtain ⟨hj,he⟩:=List.getElem?_eq_some_iff.1 h
 refine ⟨by rw [seen_len]; exact hj,?_⟩
 unfold seenV
 rw [List.getElem_map,he]
theorem kN_inj : ∀ i : Fin 7,∀ j : Fin 7,kN[i.1]? = kN[j.1]? → i = j:=by decide
theorem seen_set {seen : List Tx} {N : Tx} {j : Nat} (h : kN[j]? = some N) : (seenV seen).set j (.bool true) = seenV (seen ++ [N]):=by
 obtain ⟨hj,he⟩:=List.getElem?_eq_some_iff.1 h
 have key : ∀ i : Nat,((seenV seen).set j (.bool true))[i]? = (seenV (seen ++ [N]))[i]?:=by
  intro i
  unfold seenV
  rw [List.getElem?_set,List.getElem?_map,List.getElem?_map,List.length_map]
  by_cases e : j = i
  ·subst e
   rw [if_pos rfl,if_pos hj,h,Option.map_some]
   simp
  ·rw [if_neg e]
   cases hk : kN[i]? with
   | none => rfl
   | some M =>
    obtain ⟨hi,hM⟩:=List.getElem?_eq_some_iff.1 hk
    have hne : M ≠ N:=fun g => e (by have:=kN_inj ⟨j,hj⟩ ⟨i,hi⟩ (by show kN[j]? = kN[i]?; rw [h,hk,g]); exact Fin.mk.inj this)
    rw [Option.map_some,Option.map_some]
    congr 2
    simp [hne]
 exact List.ext_getElem? key
theorem knr_lt {j : Nat} {N : Tx} (h : kN[j]? = some N) : j < 7:=(List.getElem?_eq_some_iff.1 h).1
def ReadsD (w : World) (p : Option Ev.E × Nat) (e : Ending) (w' : World) : Prop:=Below w.heap.size w w' ∧ match p.1 with
 | none => e = .returned (.tuple #[noEvent,.int .i64 p.2,.bool false])
 | some q => ∃ m,e = .returned (.tuple #[evV q m,.int .i64 p.2,.bool true]) ∧ EvL w' q m
theorem evAt_e0 {w : World} {X B : Nat} (k : BlkAt w X [.string ⟨#[]⟩,.string ⟨#[]⟩,.int .i64 0,.int .i64 0,.slice none 0 0,.int .i64 0,.int .i64 0,.int .i64 0,.int .i64 (-1),.slice none 0 0,.slice none 0 0,.slice none 0 0,.slice none 0 0]) (hx : X < B) (hb : B ≤ w.heap.size) : EvAt w X B Ev.e0 memB :=
 ⟨k.is rfl,evL_e0 w,fun h => absurd rfl h,fun h => absurd rfl h,fun h => absurd rfl h,fun h => absurd rfl h,fun h => absurd rfl h,hx,hb⟩

set_option maxRecDepth 100000 in
set_option maxHeartbeats 8000000 in
theorem rRead_any (A : Option Addr) (n c : Nat) (l : List Tx) (w : World) (hl : RowS w A l) (hn : n = l.length) (hsz : l.length ≤ 900) (hb : ∀ p ∈ l,p.length ≤ 400) :
  Calls Tryz.prog 21 #[.slice A n c] w (ReadsD w (Ev.readE unU l)):=by
 subst hn
 have HR:=hide hl
 have HB:=hide hb
 obtain ⟨P,hP⟩ : ∃ P,Ev.readE unU l = P:=⟨_,rfl⟩
 have HP:=hide hP
 rw [hP]
 have hz0:=blk_new w #[.string ⟨#[]⟩,.string ⟨#[]⟩,.int .i64 0,.int .i64 0,.slice none 0 0,.int .i64 0,.int .i64 0,.int .i64 0,.int .i64 0,.slice none 0 0,.slice none 0 0,.slice none 0 0,.slice none 0 0] 27
 have hb0:=more (start w) (.cells #[.string ⟨#[]⟩,.string ⟨#[]⟩,.int .i64 0,.int .i64 0,.slice none 0 0,.int .i64 0,.int .i64 0,.int .i64 0,.int .i64 0,.slice none 0 0,.slice none 0 0,.slice none 0 0,.slice none 0 0] 27)
 have HZ:=hide hz0
 have HBR:=hide hb0
 clear hl hb hP hz0 hb0
 rcases Nat.eq_zero_or_pos l.length with h0 | h0
 ·have hF : P = (none,0):=by rw [← HP.out,List.eq_nil_of_length_eq_zero h0]; rfl
  have HF:=hide hF
  rw [h0]
  clear hF
  go_enter Tryz.func21,Tryz.ntmps21
  have HZ1:=hide (And.intro HZ.out HBR.out)
  go_wp2_with fail
  refine ret_gen (fun W => BlkAt W w.heap.size [.string ⟨#[]⟩,.string ⟨#[]⟩,.int .i64 0,.int .i64 0,.slice none 0 0,.int .i64 0,.int .i64 0,.int .i64 0,.int .i64 0,.slice none 0 0,.slice none 0 0,.slice none 0 0,.slice none 0 0] ∧ Below w.heap.size w W) HZ1.out ?_
  rintro WF ⟨hk,hb⟩
  obtain ⟨⟨k0,-⟩,⟨k1,-⟩,⟨k2,-⟩,⟨k3,-⟩,⟨k4,-⟩,⟨k5,-⟩,⟨k6,-⟩,⟨k7,-⟩,⟨k8,-⟩,⟨k9,-⟩,⟨k10,-⟩,⟨k11,-⟩,⟨k12,-⟩⟩:=hk.c13
  refine bodyPost_ret (v:=.tuple #[noEvent,.int .i64 0,.bool false]) (by simp [results,Tryz.results21,go_sem,noEvent,k0,k1,k2,k3,k4,k5,k6,k7,k8,k9,k10,k11,k12]) rfl ?_
  rw [HF.out]
  exact ⟨hb,rfl⟩
 ·obtain ⟨b1,o1,rfl,hb1,hc1⟩:=HR.out (by intro h; rw [h] at h0; exact absurd h0 (Nat.lt_irrefl _))
  obtain ⟨T,hm⟩ : ∃ T,l[0] = T:=⟨_,rfl⟩
  have hT:=HB.out l[0] (List.getElem_mem _)
  rw [hm] at hT
  have p1 : (w.alloc (.cells #[.string ⟨#[]⟩,.string ⟨#[]⟩,.int .i64 0,.int .i64 0,.slice none 0 0,.int .i64 0,.int .i64 0,.int .i64 0,.int .i64 0,.slice none 0 0,.slice none 0 0,.slice none 0 0,.slice none 0 0] 27)).cell? ⟨b1,o1,none⟩ = some (.string (str T)):=by rw [← hm]; exact (HBR.out.cell (p:=⟨b1,_,none⟩) hb1).trans (hc1 0 h0)
  have hi1 : (0 : Int) < (l.length : Int):=by omega
  have hi2 : ((l.length : Int) == 0) = false:=by rw [beq_eq_false_iff_ne]; omega
  have HSP:=hide (fun w => rSplit_any (str T) w (by rw [str_size]; omega))
  rw [str_list] at HSP
  obtain ⟨O,hO⟩ : ∃ O,Li.lineE T = O:=⟨_,rfl⟩
  rw [hO] at HSP
  have hPO : P = firstR unU (l.drop 1) O:=by rw [← HP.out,read_first h0,hm,hO]
  have htl : ∀ n v,O = some (n,v) → v.length ≤ 400:=fun n v e => Nat.le_trans (line_len T n v (hO.trans e)) hT
  have HPO:=hide hPO
  have HC1:=hide hc1
  clear hc1 hm hO hPO HP
  cases O with
  | none =>
   have HF : Hid (P = (none,0)):=hide HPO.out
   unfold splR at HSP
   clear HPO htl
   go_enter Tryz.func21,Tryz.ntmps21
   go_wp2_with fail
   refine (HSP.out _).mono ?_
   rintro _ wv ⟨rfl,hbv⟩
   replace HZ:=hide (HZ.out.keep hbv)
   replace HBR:=hide (andthen HBR.out hbv)
   clear hbv p1
   obtain ⟨⟨z0,zf0⟩,⟨z1,zf1⟩,⟨z2,zf2⟩,⟨z3,zf3⟩,⟨z4,zf4⟩,⟨z5,zf5⟩,⟨z6,zf6⟩,⟨z7,zf7⟩,⟨z8,zf8⟩,⟨z9,zf9⟩,⟨z10,zf10⟩,⟨z11,zf11⟩,⟨z12,zf12⟩⟩:=HZ.out.c13
   have hlz:=HZ.out.lt
   have hZ1:=HZ.out.all [.string ⟨#[]⟩,.string ⟨#[]⟩,.int .i64 0,.int .i64 0,.slice none 0 0,.int .i64 0,.int .i64 0,.int .i64 0,.int .i64 0,.slice none 0 0,.slice none 0 0,.slice none 0 0,.slice none 0 0] rfl
   have hB1:=all_below [.string ⟨#[]⟩,.string ⟨#[]⟩,.int .i64 0,.int .i64 0,.slice none 0 0,.int .i64 0,.int .i64 0,.int .i64 0,.int .i64 0,.slice none 0 0,.slice none 0 0,.slice none 0 0,.slice none 0 0] w.heap.size 0 HBR.out (Nat.le_refl _)
   rw [chain13] at hZ1 hB1
   have HZ1:=hide (And.intro hZ1 hB1)
   clear hZ1 hB1
   go_wp2_with fail
   refine ret_gen (fun W => BlkAt W w.heap.size [.string ⟨#[]⟩,.string ⟨#[]⟩,.int .i64 0,.int .i64 0,.slice none 0 0,.int .i64 0,.int .i64 0,.int .i64 0,.int .i64 0,.slice none 0 0,.slice none 0 0,.slice none 0 0,.slice none 0 0] ∧ Below w.heap.size w W) HZ1.out ?_
   rintro WF ⟨hk,hb⟩
   obtain ⟨⟨k0,-⟩,⟨k1,-⟩,⟨k2,-⟩,⟨k3,-⟩,⟨k4,-⟩,⟨k5,-⟩,⟨k6,-⟩,⟨k7,-⟩,⟨k8,-⟩,⟨k9,-⟩,⟨k10,-⟩,⟨k11,-⟩,⟨k12,-⟩⟩:=hk.c13
   refine bodyPost_ret (v:=.tuple #[noEvent,.int .i64 0,.bool false]) (by simp [results,Tryz.results21,go_sem,noEvent,k0,k1,k2,k3,k4,k5,k6,k7,k8,k9,k10,k11,k12]) rfl ?_
   rw [HF.out]
   exact ⟨hb,rfl⟩
  | some nv =>
   obtain ⟨N,t⟩:=nv
   have ht : t.length ≤ 400:=htl N t rfl
   unfold splR at HSP
   simp only at HSP
   have q1:=str_tl N
   by_cases hN : N = Ev.nBEGIN
   ·have e1 : (N == [66,69,71,73,78]) = true:=beq_iff_eq.2 hN
    have HG:=hide (fun w => rGreat_at (str t) _ w (by rw [str_size]; omega) rfl)
    rw [str_list] at HG
    obtain ⟨G,hG⟩ : ∃ G,Li.capE t = G:=⟨_,rfl⟩
    rw [hG] at HG
    have q2:=str_tl G
    by_cases hW : G = Ev.wEV
    ·have e2 : (G == [86,69,86,69,78,84]) = true:=beq_iff_eq.2 hW
     have HGO : Hid (Ev.goE unU 1 Ev.e0 [] (l.drop 1) = P):=hide (by rw [HPO.out]; exact (firstR_yes ⟨hN,by rw [hG]; exact hW⟩).symm)
     clear HPO htl hG hN hW
     go_enter Tryz.func21,Tryz.ntmps21
     go_wp2_with fail
     refine (HSP.out _).mono ?_
     rintro _ wv ⟨rfl,hbv⟩
     replace HZ:=hide (HZ.out.keep hbv)
     replace HBR:=hide (andthen HBR.out hbv)
     clear hbv p1 HSP
     go_wp2_with fail
     refine (HG.out _).mono ?_
     rintro _ w2 ⟨rfl,hbv⟩
     replace HZ:=hide (HZ.out.keep hbv)
     replace HBR:=hide (andthen HBR.out hbv)
     clear hbv HG ht
     go_wp2_with fail
     refine (R.once_any _).mono ?_
     rintro _ w3 ⟨rfl,hbv⟩
     clear e1 e2 q1 q2
     replace HZ:=hide (HZ.out.keep hbv)
     replace HBR:=hide (andthen HBR.out hbv)
     clear hbv
     have hba:=more (start w3) (.cells #[.string ⟨#[]⟩,.string ⟨#[]⟩,.int .i64 0,.int .i64 0,.slice none 0 0,.int .i64 0,.int .i64 0,.int .i64 0,.int .i64 (-1),.slice none 0 0,.slice none 0 0,.slice none 0 0,.slice none 0 0] 27)
     have hbs:=more (start (w3.alloc (.cells #[.string ⟨#[]⟩,.string ⟨#[]⟩,.int .i64 0,.int .i64 0,.slice none 0 0,.int .i64 0,.int .i64 0,.int .i64 0,.int .i64 (-1),.slice none 0 0,.slice none 0 0,.slice none 0 0,.slice none 0 0] 27))) (.cells #[.bool false,.bool false,.bool false,.bool false,.bool false,.bool false,.bool false] 74)
     have hx0:=(blk_new w3 #[.string ⟨#[]⟩,.string ⟨#[]⟩,.int .i64 0,.int .i64 0,.slice none 0 0,.int .i64 0,.int .i64 0,.int .i64 0,.int .i64 (-1),.slice none 0 0,.slice none 0 0,.slice none 0 0,.slice none 0 0] 27).keep hbs
     have hs0:=blk_new (w3.alloc (.cells #[.string ⟨#[]⟩,.string ⟨#[]⟩,.int .i64 0,.int .i64 0,.slice none 0 0,.int .i64 0,.int .i64 0,.int .i64 0,.int .i64 (-1),.slice none 0 0,.slice none 0 0,.slice none 0 0,.slice none 0 0] 27)) #[.bool false,.bool false,.bool false,.bool false,.bool false,.bool false,.bool false] 74
     rw [World.size_alloc] at hs0
     have hwX : w.heap.size < w3.heap.size:=HZ.out.lt
     replace HZ:=hide ((HZ.out.keep hba).keep hbs)
     replace HBR:=hide (andthen HBR.out (andthen hba hbs))
     have HX:=hide (evAt_e0 (B:=w3.heap.size + 2) hx0 (by omega) (by simp only [World.size_alloc]; omega))
     have HS:=hide hs0
     clear hba hbs hx0 hs0
     go_wp2_with fail
     go_loopw [10,11,12,13,14] (fun i _ _ _ _ wr => ∃ (j : Nat) (e : Ev.E) (m : Mem) (seen : List Tx),1 ≤ j ∧ j ≤ l.length ∧ i = .int .i64 j ∧ EvAt wr w3.heap.size (w3.heap.size + 2) e m ∧ BlkAt wr (w3.heap.size + 1) (seenV seen) ∧ BlkAt wr w.heap.size [.string ⟨#[]⟩,.string ⟨#[]⟩,.int .i64 0,.int .i64 0,.slice none 0 0,.int .i64 0,.int .i64 0,.int .i64 0,.int .i64 0,.slice none 0 0,.slice none 0 0,.slice none 0 0,.slice none 0 0] ∧ Hid (Ev.goE unU j e seen (l.drop j) = P) ∧ Below w.heap.size w wr) (fun i _ _ _ _ _ => l.length - (intOf i).toNat)
     case atStart => exact ⟨1,Ev.e0,memB,[],Nat.le_refl _,h0,rfl,HX.out,HS.out.is rfl,HZ.out,HGO,HBR.out⟩
     case round =>
      obtain ⟨j,e,m,seen,hj1,hj,rfl,hx,hs,hz,HGR,hbw⟩:=hrel
      clear HX HS HZ HBR HGO
      have HX:=hide hx
      have HS:=hide hs
      have HZ:=hide hz
      have HBR:=hide hbw
      clear hx hs hz hbw
      have hwB : w.heap.size < w3.heap.size + 2:=by omega
      by_cases hlt : j < l.length
      ·obtain ⟨T,hm⟩ : ∃ T,l[j] = T:=⟨_,rfl⟩
       have hT:=HB.out l[j] (List.getElem_mem _)
       rw [hm] at hT
       have p1 : wr.cell? ⟨b1,o1 + j,none⟩ = some (.string (str T)):=by rw [← hm]; exact (HBR.out.cell (p:=⟨b1,_,none⟩) hb1).trans (HC1.out j hlt)
       have hi0 : (0 : Int) ≤ (j : Int):=by omega
       have hi1 : (j : Int) < (l.length : Int):=by omega
       have HSP:=hide (fun w => rSplit_any (str T) w (by rw [str_size]; omega))
       rw [str_list] at HSP
       obtain ⟨O,hO⟩ : ∃ O,Li.lineE T = O:=⟨_,rfl⟩
       rw [hO] at HSP
       have hO2 : Li.lineE l[j] = O:=by rw [hm]; exact hO
       have htl : ∀ n v,O = some (n,v) → v.length ≤ 400:=fun n v e => Nat.le_trans (line_len T n v (hO.trans e)) hT
       clear hm hO
       cases O with
       | none =>
        have HF : Hid (P = (none,j)):=hide (HGR.out.symm.trans (Ev.go_none hlt hO2))
        unfold splR at HSP
        go_wp2_with fail
        refine (HSP.out _).mono ?_
        rintro _ wv ⟨rfl,hbv⟩
        replace HZ:=hide (HZ.out.keep hbv)
        replace HX:=hide (HX.out.keep hbv)
        replace HS:=hide (HS.out.keep hbv)
        replace HBR:=hide (andthen HBR.out hbv)
        clear hbv p1 HSP
        obtain ⟨⟨z0,zf0⟩,⟨z1,zf1⟩,⟨z2,zf2⟩,⟨z3,zf3⟩,⟨z4,zf4⟩,⟨z5,zf5⟩,⟨z6,zf6⟩,⟨z7,zf7⟩,⟨z8,zf8⟩,⟨z9,zf9⟩,⟨z10,zf10⟩,⟨z11,zf11⟩,⟨z12,zf12⟩⟩:=HZ.out.c13
        have hlz:=HZ.out.lt
        have hZ1:=HZ.out.all [.string ⟨#[]⟩,.string ⟨#[]⟩,.int .i64 0,.int .i64 0,.slice none 0 0,.int .i64 0,.int .i64 0,.int .i64 0,.int .i64 0,.slice none 0 0,.slice none 0 0,.slice none 0 0,.slice none 0 0] rfl
        have hB1:=all_below [.string ⟨#[]⟩,.string ⟨#[]⟩,.int .i64 0,.int .i64 0,.slice none 0 0,.int .i64 0,.int .i64 0,.int .i64 0,.int .i64 0,.slice none 0 0,.slice none 0 0,.slice none 0 0,.slice none 0 0] w.heap.size 0 HBR.out (Nat.le_refl _)
        rw [chain13] at hZ1 hB1
        have HZ1:=hide (And.intro hZ1 hB1)
        clear hZ1 hB1
        go_wp2_with fail
        refine ret_gen (fun W => BlkAt W w.heap.size [.string ⟨#[]⟩,.string ⟨#[]⟩,.int .i64 0,.int .i64 0,.slice none 0 0,.int .i64 0,.int .i64 0,.int .i64 0,.int .i64 0,.slice none 0 0,.slice none 0 0,.slice none 0 0,.slice none 0 0] ∧ Below w.heap.size w W) HZ1.out ?_
        rintro WF ⟨hk,hb⟩
        obtain ⟨⟨k0,-⟩,⟨k1,-⟩,⟨k2,-⟩,⟨k3,-⟩,⟨k4,-⟩,⟨k5,-⟩,⟨k6,-⟩,⟨k7,-⟩,⟨k8,-⟩,⟨k9,-⟩,⟨k10,-⟩,⟨k11,-⟩,⟨k12,-⟩⟩:=hk.c13
        refine bodyPost_ret (v:=.tuple #[noEvent,.int .i64 j,.bool false]) (by simp [results,Tryz.results21,go_sem,noEvent,k0,k1,k2,k3,k4,k5,k6,k7,k8,k9,k10,k11,k12]) rfl ?_
        rw [HF.out]
        exact ⟨hb,rfl⟩
       | some nv =>
        obtain ⟨N,t⟩:=nv
        have ht : t.length ≤ 400:=htl N t rfl
        have HO2:=hide hO2
        unfold splR at HSP
        simp only at HSP
        have q1:=str_tl N
        clear htl hO2
        by_cases hN : N = Ev.nBEGIN
        ·have e1 : (N == [66,69,71,73,78]) = true:=beq_iff_eq.2 hN
         have HF : Hid (P = (none,j)):=hide (by have h:=HO2.out; rw [hN] at h; exact HGR.out.symm.trans (Ev.go_begin hlt h))
         clear hN
         go_wp2_with fail
         refine (HSP.out _).mono ?_
         rintro _ wv ⟨rfl,hbv⟩
         replace HZ:=hide (HZ.out.keep hbv)
         replace HX:=hide (HX.out.keep hbv)
         replace HS:=hide (HS.out.keep hbv)
         replace HBR:=hide (andthen HBR.out hbv)
         clear hbv p1 HSP
         obtain ⟨⟨z0,zf0⟩,⟨z1,zf1⟩,⟨z2,zf2⟩,⟨z3,zf3⟩,⟨z4,zf4⟩,⟨z5,zf5⟩,⟨z6,zf6⟩,⟨z7,zf7⟩,⟨z8,zf8⟩,⟨z9,zf9⟩,⟨z10,zf10⟩,⟨z11,zf11⟩,⟨z12,zf12⟩⟩:=HZ.out.c13
         have hlz:=HZ.out.lt
         have hZ1:=HZ.out.all [.string ⟨#[]⟩,.string ⟨#[]⟩,.int .i64 0,.int .i64 0,.slice none 0 0,.int .i64 0,.int .i64 0,.int .i64 0,.int .i64 0,.slice none 0 0,.slice none 0 0,.slice none 0 0,.slice none 0 0] rfl
         have hB1:=all_below [.string ⟨#[]⟩,.string ⟨#[]⟩,.int .i64 0,.int .i64 0,.slice none 0 0,.int .i64 0,.int .i64 0,.int .i64 0,.int .i64 0,.slice none 0 0,.slice none 0 0,.slice none 0 0,.slice none 0 0] w.heap.size 0 HBR.out (Nat.le_refl _)
         rw [chain13] at hZ1 hB1
         have HZ1:=hide (And.intro hZ1 hB1)
         clear hZ1 hB1
         go_wp2_with fail
         refine ret_gen (fun W => BlkAt W w.heap.size [.string ⟨#[]⟩,.string ⟨#[]⟩,.int .i64 0,.int .i64 0,.slice none 0 0,.int .i64 0,.int .i64 0,.int .i64 0,.int .i64 0,.slice none 0 0,.slice none 0 0,.slice none 0 0,.slice none 0 0] ∧ Below w.heap.size w W) HZ1.out ?_
         rintro WF ⟨hk,hb⟩
         obtain ⟨⟨k0,-⟩,⟨k1,-⟩,⟨k2,-⟩,⟨k3,-⟩,⟨k4,-⟩,⟨k5,-⟩,⟨k6,-⟩,⟨k7,-⟩,⟨k8,-⟩,⟨k9,-⟩,⟨k10,-⟩,⟨k11,-⟩,⟨k12,-⟩⟩:=hk.c13
         refine bodyPost_ret (v:=.tuple #[noEvent,.int .i64 j,.bool false]) (by simp [results,Tryz.results21,go_sem,noEvent,k0,k1,k2,k3,k4,k5,k6,k7,k8,k9,k10,k11,k12]) rfl ?_
         rw [HF.out]
         exact ⟨hb,rfl⟩
        ·have e1 : (N == [66,69,71,73,78]) = false:=beq_eq_false_iff_ne.2 hN
         by_cases hE : N = Ev.nEND
         ·have e3 : (N == [69,78,68]) = true:=beq_iff_eq.2 hE
          have HG:=hide (fun w => rGreat_at (str t) _ w (by rw [str_size]; omega) rfl)
          rw [str_list] at HG
          have hge:=HGR.out.symm.trans (Ev.go_end hlt (by have h:=HO2.out; rw [hE] at h; exact h))
          obtain ⟨G,hG⟩ : ∃ G,Li.capE t = G:=⟨_,rfl⟩
          rw [hG] at HG hge
          have q2:=str_tl G
          clear hG hN hE
          by_cases hW : G = Ev.wEV
          ·have e4 : (G == [86,69,86,69,78,84]) = true:=beq_iff_eq.2 hW
           rw [decide_eq_true hW,Bool.true_and] at hge
           unfold Ev.hasAll at hge
           have HFG:=hide hge
           clear hW hge
           go_wp2_with fail
           refine (HSP.out _).mono ?_
           rintro _ wv ⟨rfl,hbv⟩
           replace HZ:=hide (HZ.out.keep hbv)
           replace HX:=hide (HX.out.keep hbv)
           replace HS:=hide (HS.out.keep hbv)
           replace HBR:=hide (andthen HBR.out hbv)
           clear hbv p1 HSP
           go_wp2_with fail
           refine (HG.out _).mono ?_
           rintro _ w5 ⟨rfl,hbv⟩
           replace HZ:=hide (HZ.out.keep hbv)
           replace HX:=hide (HX.out.keep hbv)
           replace HS:=hide (HS.out.keep hbv)
           replace HBR:=hide (andthen HBR.out hbv)
           clear hbv HG
           have s0 : w5.cell? ⟨w3.heap.size + 1,0,none⟩ = some (.bool (decide (Ev.nUID ∈ seen))):=HS.out.cell 0 (by rw [seen_len]; omega)
           have s1 : w5.cell? ⟨w3.heap.size + 1,1,none⟩ = some (.bool (decide (Ev.nSTART ∈ seen))):=HS.out.cell 1 (by rw [seen_len]; omega)
           have s2 : w5.cell? ⟨w3.heap.size + 1,2,none⟩ = some (.bool (decide (Ev.nLONG ∈ seen))):=HS.out.cell 2 (by rw [seen_len]; omega)
           have s3 : w5.cell? ⟨w3.heap.size + 1,3,none⟩ = some (.bool (decide (Ev.nROOMS ∈ seen))):=HS.out.cell 3 (by rw [seen_len]; omega)
           generalize decide (Ev.nUID ∈ seen) = a0 at *
           generalize decide (Ev.nSTART ∈ seen) = a1 at *
           generalize decide (Ev.nLONG ∈ seen) = a2 at *
           generalize decide (Ev.nROOMS ∈ seen) = a3 at *
           cases a0 with
           | false =>
            have HF : Hid (P = (none,j)):=hide HFG.out
            obtain ⟨⟨z0,zf0⟩,⟨z1,zf1⟩,⟨z2,zf2⟩,⟨z3,zf3⟩,⟨z4,zf4⟩,⟨z5,zf5⟩,⟨z6,zf6⟩,⟨z7,zf7⟩,⟨z8,zf8⟩,⟨z9,zf9⟩,⟨z10,zf10⟩,⟨z11,zf11⟩,⟨z12,zf12⟩⟩:=HZ.out.c13
            have hlz:=HZ.out.lt
            have hZ1:=HZ.out.all [.string ⟨#[]⟩,.string ⟨#[]⟩,.int .i64 0,.int .i64 0,.slice none 0 0,.int .i64 0,.int .i64 0,.int .i64 0,.int .i64 0,.slice none 0 0,.slice none 0 0,.slice none 0 0,.slice none 0 0] rfl
            have hB1:=all_below [.string ⟨#[]⟩,.string ⟨#[]⟩,.int .i64 0,.int .i64 0,.slice none 0 0,.int .i64 0,.int .i64 0,.int .i64 0,.int .i64 0,.slice none 0 0,.slice none 0 0,.slice none 0 0,.slice none 0 0] w.heap.size 0 HBR.out (Nat.le_refl _)
            rw [chain13] at hZ1 hB1
            have HZ1:=hide (And.intro hZ1 hB1)
            clear hZ1 hB1
            go_wp2_with fail
            refine ret_gen (fun W => BlkAt W w.heap.size [.string ⟨#[]⟩,.string ⟨#[]⟩,.int .i64 0,.int .i64 0,.slice none 0 0,.int .i64 0,.int .i64 0,.int .i64 0,.int .i64 0,.slice none 0 0,.slice none 0 0,.slice none 0 0,.slice none 0 0] ∧ Below w.heap.size w W) HZ1.out ?_
            rintro WF ⟨hk,hb⟩
            obtain ⟨⟨k0,-⟩,⟨k1,-⟩,⟨k2,-⟩,⟨k3,-⟩,⟨k4,-⟩,⟨k5,-⟩,⟨k6,-⟩,⟨k7,-⟩,⟨k8,-⟩,⟨k9,-⟩,⟨k10,-⟩,⟨k11,-⟩,⟨k12,-⟩⟩:=hk.c13
            refine bodyPost_ret (v:=.tuple #[noEvent,.int .i64 j,.bool false]) (by simp [results,Tryz.results21,go_sem,noEvent,k0,k1,k2,k3,k4,k5,k6,k7,k8,k9,k10,k11,k12]) rfl ?_
            rw [HF.out]
            exact ⟨hb,rfl⟩
           | true =>
            cases a1 with
            | false =>
             have HF : Hid (P = (none,j)):=hide HFG.out
             obtain ⟨⟨z0,zf0⟩,⟨z1,zf1⟩,⟨z2,zf2⟩,⟨z3,zf3⟩,⟨z4,zf4⟩,⟨z5,zf5⟩,⟨z6,zf6⟩,⟨z7,zf7⟩,⟨z8,zf8⟩,⟨z9,zf9⟩,⟨z10,zf10⟩,⟨z11,zf11⟩,⟨z12,zf12⟩⟩:=HZ.out.c13
             have hlz:=HZ.out.lt
             have hZ1:=HZ.out.all [.string ⟨#[]⟩,.string ⟨#[]⟩,.int .i64 0,.int .i64 0,.slice none 0 0,.int .i64 0,.int .i64 0,.int .i64 0,.int .i64 0,.slice none 0 0,.slice none 0 0,.slice none 0 0,.slice none 0 0] rfl
             have hB1:=all_below [.string ⟨#[]⟩,.string ⟨#[]⟩,.int .i64 0,.int .i64 0,.slice none 0 0,.int .i64 0,.int .i64 0,.int .i64 0,.int .i64 0,.slice none 0 0,.slice none 0 0,.slice none 0 0,.slice none 0 0] w.heap.size 0 HBR.out (Nat.le_refl _)
             rw [chain13] at hZ1 hB1
             have HZ1:=hide (And.intro hZ1 hB1)
             clear hZ1 hB1
             go_wp2_with fail
             refine ret_gen (fun W => BlkAt W w.heap.size [.string ⟨#[]⟩,.string ⟨#[]⟩,.int .i64 0,.int .i64 0,.slice none 0 0,.int .i64 0,.int .i64 0,.int .i64 0,.int .i64 0,.slice none 0 0,.slice none 0 0,.slice none 0 0,.slice none 0 0] ∧ Below w.heap.size w W) HZ1.out ?_
             rintro WF ⟨hk,hb⟩
             obtain ⟨⟨k0,-⟩,⟨k1,-⟩,⟨k2,-⟩,⟨k3,-⟩,⟨k4,-⟩,⟨k5,-⟩,⟨k6,-⟩,⟨k7,-⟩,⟨k8,-⟩,⟨k9,-⟩,⟨k10,-⟩,⟨k11,-⟩,⟨k12,-⟩⟩:=hk.c13
             refine bodyPost_ret (v:=.tuple #[noEvent,.int .i64 j,.bool false]) (by simp [results,Tryz.results21,go_sem,noEvent,k0,k1,k2,k3,k4,k5,k6,k7,k8,k9,k10,k11,k12]) rfl ?_
             rw [HF.out]
             exact ⟨hb,rfl⟩
            | true =>
             cases a2 with
             | false =>
              have HF : Hid (P = (none,j)):=hide HFG.out
              obtain ⟨⟨z0,zf0⟩,⟨z1,zf1⟩,⟨z2,zf2⟩,⟨z3,zf3⟩,⟨z4,zf4⟩,⟨z5,zf5⟩,⟨z6,zf6⟩,⟨z7,zf7⟩,⟨z8,zf8⟩,⟨z9,zf9⟩,⟨z10,zf10⟩,⟨z11,zf11⟩,⟨z12,zf12⟩⟩:=HZ.out.c13
              have hlz:=HZ.out.lt
              have hZ1:=HZ.out.all [.string ⟨#[]⟩,.string ⟨#[]⟩,.int .i64 0,.int .i64 0,.slice none 0 0,.int .i64 0,.int .i64 0,.int .i64 0,.int .i64 0,.slice none 0 0,.slice none 0 0,.slice none 0 0,.slice none 0 0] rfl
              have hB1:=all_below [.string ⟨#[]⟩,.string ⟨#[]⟩,.int .i64 0,.int .i64 0,.slice none 0 0,.int .i64 0,.int .i64 0,.int .i64 0,.int .i64 0,.slice none 0 0,.slice none 0 0,.slice none 0 0,.slice none 0 0] w.heap.size 0 HBR.out (Nat.le_refl _)
              rw [chain13] at hZ1 hB1
              have HZ1:=hide (And.intro hZ1 hB1)
              clear hZ1 hB1
              go_wp2_with fail
              refine ret_gen (fun W => BlkAt W w.heap.size [.string ⟨#[]⟩,.string ⟨#[]⟩,.int .i64 0,.int .i64 0,.slice none 0 0,.int .i64 0,.int .i64 0,.int .i64 0,.int .i64 0,.slice none 0 0,.slice none 0 0,.slice none 0 0,.slice none 0 0] ∧ Below w.heap.size w W) HZ1.out ?_
              rintro WF ⟨hk,hb⟩
              obtain ⟨⟨k0,-⟩,⟨k1,-⟩,⟨k2,-⟩,⟨k3,-⟩,⟨k4,-⟩,⟨k5,-⟩,⟨k6,-⟩,⟨k7,-⟩,⟨k8,-⟩,⟨k9,-⟩,⟨k10,-⟩,⟨k11,-⟩,⟨k12,-⟩⟩:=hk.c13
              refine bodyPost_ret (v:=.tuple #[noEvent,.int .i64 j,.bool false]) (by simp [results,Tryz.results21,go_sem,noEvent,k0,k1,k2,k3,k4,k5,k6,k7,k8,k9,k10,k11,k12]) rfl ?_
              rw [HF.out]
              exact ⟨hb,rfl⟩
             | true =>
              cases a3 with
              | false =>
               have HF : Hid (P = (none,j)):=hide HFG.out
               obtain ⟨⟨z0,zf0⟩,⟨z1,zf1⟩,⟨z2,zf2⟩,⟨z3,zf3⟩,⟨z4,zf4⟩,⟨z5,zf5⟩,⟨z6,zf6⟩,⟨z7,zf7⟩,⟨z8,zf8⟩,⟨z9,zf9⟩,⟨z10,zf10⟩,⟨z11,zf11⟩,⟨z12,zf12⟩⟩:=HZ.out.c13
               have hlz:=HZ.out.lt
               have hZ1:=HZ.out.all [.string ⟨#[]⟩,.string ⟨#[]⟩,.int .i64 0,.int .i64 0,.slice none 0 0,.int .i64 0,.int .i64 0,.int .i64 0,.int .i64 0,.slice none 0 0,.slice none 0 0,.slice none 0 0,.slice none 0 0] rfl
               have hB1:=all_below [.string ⟨#[]⟩,.string ⟨#[]⟩,.int .i64 0,.int .i64 0,.slice none 0 0,.int .i64 0,.int .i64 0,.int .i64 0,.int .i64 0,.slice none 0 0,.slice none 0 0,.slice none 0 0,.slice none 0 0] w.heap.size 0 HBR.out (Nat.le_refl _)
               rw [chain13] at hZ1 hB1
               have HZ1:=hide (And.intro hZ1 hB1)
               clear hZ1 hB1
               go_wp2_with fail
               refine ret_gen (fun W => BlkAt W w.heap.size [.string ⟨#[]⟩,.string ⟨#[]⟩,.int .i64 0,.int .i64 0,.slice none 0 0,.int .i64 0,.int .i64 0,.int .i64 0,.int .i64 0,.slice none 0 0,.slice none 0 0,.slice none 0 0,.slice none 0 0] ∧ Below w.heap.size w W) HZ1.out ?_
               rintro WF ⟨hk,hb⟩
               obtain ⟨⟨k0,-⟩,⟨k1,-⟩,⟨k2,-⟩,⟨k3,-⟩,⟨k4,-⟩,⟨k5,-⟩,⟨k6,-⟩,⟨k7,-⟩,⟨k8,-⟩,⟨k9,-⟩,⟨k10,-⟩,⟨k11,-⟩,⟨k12,-⟩⟩:=hk.c13
               refine bodyPost_ret (v:=.tuple #[noEvent,.int .i64 j,.bool false]) (by simp [results,Tryz.results21,go_sem,noEvent,k0,k1,k2,k3,k4,k5,k6,k7,k8,k9,k10,k11,k12]) rfl ?_
               rw [HF.out]
               exact ⟨hb,rfl⟩
              | true =>
               obtain ⟨⟨x0,xf0⟩,⟨x1,xf1⟩,⟨x2,xf2⟩,⟨x3,xf3⟩,⟨x4,xf4⟩,⟨x5,xf5⟩,⟨x6,xf6⟩,⟨x7,xf7⟩,⟨x8,xf8⟩,⟨x9,xf9⟩,⟨x10,xf10⟩,⟨x11,xf11⟩,⟨x12,xf12⟩⟩:=HX.out.k.c13
               have HIS:=hide (fun w h => rIs_any e m w h)
               go_wp2_with fail
               refine (HIS.out _ HX.out.l).mono ?_
               rintro _ w6 ⟨rfl,hbv⟩
               replace HZ:=hide (HZ.out.keep hbv)
               replace HX:=hide (HX.out.keep hbv)
               replace HBR:=hide (andthen HBR.out hbv)
               clear hbv HIS s0 s1 s2 s3 x0 xf0 x1 xf1 x2 xf2 x3 xf3 x4 xf4 x5 xf5 x6 xf6 x7 xf7 x8 xf8 x9 xf9 x10 xf10 x11 xf11 x12 xf12
               obtain ⟨I,hI⟩ : ∃ I,Ev.isE e = I:=⟨_,rfl⟩
               rw [hI] at HFG ⊢
               clear hI
               cases I with
               | false =>
                have HF : Hid (P = (none,j)):=hide HFG.out
                obtain ⟨⟨z0,zf0⟩,⟨z1,zf1⟩,⟨z2,zf2⟩,⟨z3,zf3⟩,⟨z4,zf4⟩,⟨z5,zf5⟩,⟨z6,zf6⟩,⟨z7,zf7⟩,⟨z8,zf8⟩,⟨z9,zf9⟩,⟨z10,zf10⟩,⟨z11,zf11⟩,⟨z12,zf12⟩⟩:=HZ.out.c13
                have hlz:=HZ.out.lt
                have hZ1:=HZ.out.all [.string ⟨#[]⟩,.string ⟨#[]⟩,.int .i64 0,.int .i64 0,.slice none 0 0,.int .i64 0,.int .i64 0,.int .i64 0,.int .i64 0,.slice none 0 0,.slice none 0 0,.slice none 0 0,.slice none 0 0] rfl
                have hB1:=all_below [.string ⟨#[]⟩,.string ⟨#[]⟩,.int .i64 0,.int .i64 0,.slice none 0 0,.int .i64 0,.int .i64 0,.int .i64 0,.int .i64 0,.slice none 0 0,.slice none 0 0,.slice none 0 0,.slice none 0 0] w.heap.size 0 HBR.out (Nat.le_refl _)
                rw [chain13] at hZ1 hB1
                have HZ1:=hide (And.intro hZ1 hB1)
                clear hZ1 hB1
                go_wp2_with fail
                refine ret_gen (fun W => BlkAt W w.heap.size [.string ⟨#[]⟩,.string ⟨#[]⟩,.int .i64 0,.int .i64 0,.slice none 0 0,.int .i64 0,.int .i64 0,.int .i64 0,.int .i64 0,.slice none 0 0,.slice none 0 0,.slice none 0 0,.slice none 0 0] ∧ Below w.heap.size w W) HZ1.out ?_
                rintro WF ⟨hk,hb⟩
                obtain ⟨⟨k0,-⟩,⟨k1,-⟩,⟨k2,-⟩,⟨k3,-⟩,⟨k4,-⟩,⟨k5,-⟩,⟨k6,-⟩,⟨k7,-⟩,⟨k8,-⟩,⟨k9,-⟩,⟨k10,-⟩,⟨k11,-⟩,⟨k12,-⟩⟩:=hk.c13
                refine bodyPost_ret (v:=.tuple #[noEvent,.int .i64 j,.bool false]) (by simp [results,Tryz.results21,go_sem,noEvent,k0,k1,k2,k3,k4,k5,k6,k7,k8,k9,k10,k11,k12]) rfl ?_
                rw [HF.out]
                exact ⟨hb,rfl⟩
               | true =>
                have HF : Hid (P = (some e,j + 1)):=hide HFG.out
                have hij : (j : Int) + 1 ≤ 1000:=by omega
                obtain ⟨⟨x0,xf0⟩,⟨x1,xf1⟩,⟨x2,xf2⟩,⟨x3,xf3⟩,⟨x4,xf4⟩,⟨x5,xf5⟩,⟨x6,xf6⟩,⟨x7,xf7⟩,⟨x8,xf8⟩,⟨x9,xf9⟩,⟨x10,xf10⟩,⟨x11,xf11⟩,⟨x12,xf12⟩⟩:=HX.out.k.c13
                obtain ⟨⟨z0,zf0⟩,⟨z1,zf1⟩,⟨z2,zf2⟩,⟨z3,zf3⟩,⟨z4,zf4⟩,⟨z5,zf5⟩,⟨z6,zf6⟩,⟨z7,zf7⟩,⟨z8,zf8⟩,⟨z9,zf9⟩,⟨z10,zf10⟩,⟨z11,zf11⟩,⟨z12,zf12⟩⟩:=HZ.out.c13
                have hlz:=HZ.out.lt
                have hg:=all_grown [.string (str e.uid),.string (str e.text),.int .i64 e.st,.int .i64 e.lg,.slice m.O e.rooms.length m.oc,.int .i64 e.r.fr,.int .i64 e.r.ev,.int .i64 e.r.ct,.int .i64 e.r.un,.slice m.D e.r.ds.length m.dc,.slice m.M e.r.ms.length m.mc,.slice m.Y e.r.ys.length m.yc,.slice m.X e.ex.length m.xc] w6 w.heap.size 0
                have hL1:=HX.out.l.past hg (HX.out.oo.row hwB) (HX.out.od.row hwB) (HX.out.om.row hwB) (HX.out.oy.row hwB) (HX.out.ox.row hwB)
                have hZ1:=HZ.out.all [.string (str e.uid),.string (str e.text),.int .i64 e.st,.int .i64 e.lg,.slice m.O e.rooms.length m.oc,.int .i64 e.r.fr,.int .i64 e.r.ev,.int .i64 e.r.ct,.int .i64 e.r.un,.slice m.D e.r.ds.length m.dc,.slice m.M e.r.ms.length m.mc,.slice m.Y e.r.ys.length m.yc,.slice m.X e.ex.length m.xc] rfl
                have hB1:=all_below [.string (str e.uid),.string (str e.text),.int .i64 e.st,.int .i64 e.lg,.slice m.O e.rooms.length m.oc,.int .i64 e.r.fr,.int .i64 e.r.ev,.int .i64 e.r.ct,.int .i64 e.r.un,.slice m.D e.r.ds.length m.dc,.slice m.M e.r.ms.length m.mc,.slice m.Y e.r.ys.length m.yc,.slice m.X e.ex.length m.xc] w.heap.size 0 HBR.out (Nat.le_refl _)
                rw [chain13] at hL1 hZ1 hB1
                have HLN:=hide (And.intro hZ1 (And.intro hL1 hB1))
                clear hg hL1 hZ1 hB1
                go_wp2_with fail
                refine ret_gen (fun W => BlkAt W w.heap.size [.string (str e.uid),.string (str e.text),.int .i64 e.st,.int .i64 e.lg,.slice m.O e.rooms.length m.oc,.int .i64 e.r.fr,.int .i64 e.r.ev,.int .i64 e.r.ct,.int .i64 e.r.un,.slice m.D e.r.ds.length m.dc,.slice m.M e.r.ms.length m.mc,.slice m.Y e.r.ys.length m.yc,.slice m.X e.ex.length m.xc] ∧ EvL W e m ∧ Below w.heap.size w W) HLN.out ?_
                rintro WF ⟨hk,hl,hb⟩
                obtain ⟨⟨k0,-⟩,⟨k1,-⟩,⟨k2,-⟩,⟨k3,-⟩,⟨k4,-⟩,⟨k5,-⟩,⟨k6,-⟩,⟨k7,-⟩,⟨k8,-⟩,⟨k9,-⟩,⟨k10,-⟩,⟨k11,-⟩,⟨k12,-⟩⟩:=hk.c13
                refine bodyPost_ret (v:=.tuple #[evV e m,.int .i64 ((j : Int) + 1),.bool true]) (by simp [results,Tryz.results21,go_sem,k0,k1,k2,k3,k4,k5,k6,k7,k8,k9,k10,k11,k12]) rfl ?_
                rw [HF.out]
                exact ⟨hb,m,rfl,hl⟩
          ·have e4 : (G == [86,69,86,69,78,84]) = false:=beq_eq_false_iff_ne.2 hW
           rw [decide_eq_false hW,Bool.false_and,if_neg (by decide)] at hge
           have HF : Hid (P = (none,j)):=hide hge
           clear hW hge
           go_wp2_with fail
           refine (HSP.out _).mono ?_
           rintro _ wv ⟨rfl,hbv⟩
           replace HZ:=hide (HZ.out.keep hbv)
           replace HX:=hide (HX.out.keep hbv)
           replace HS:=hide (HS.out.keep hbv)
           replace HBR:=hide (andthen HBR.out hbv)
           clear hbv p1 HSP
           go_wp2_with fail
           refine (HG.out _).mono ?_
           rintro _ w5 ⟨rfl,hbv⟩
           replace HZ:=hide (HZ.out.keep hbv)
           replace HX:=hide (HX.out.keep hbv)
           replace HS:=hide (HS.out.keep hbv)
           replace HBR:=hide (andthen HBR.out hbv)
           clear hbv HG
           obtain ⟨⟨z0,zf0⟩,⟨z1,zf1⟩,⟨z2,zf2⟩,⟨z3,zf3⟩,⟨z4,zf4⟩,⟨z5,zf5⟩,⟨z6,zf6⟩,⟨z7,zf7⟩,⟨z8,zf8⟩,⟨z9,zf9⟩,⟨z10,zf10⟩,⟨z11,zf11⟩,⟨z12,zf12⟩⟩:=HZ.out.c13
           have hlz:=HZ.out.lt
           have hZ1:=HZ.out.all [.string ⟨#[]⟩,.string ⟨#[]⟩,.int .i64 0,.int .i64 0,.slice none 0 0,.int .i64 0,.int .i64 0,.int .i64 0,.int .i64 0,.slice none 0 0,.slice none 0 0,.slice none 0 0,.slice none 0 0] rfl
           have hB1:=all_below [.string ⟨#[]⟩,.string ⟨#[]⟩,.int .i64 0,.int .i64 0,.slice none 0 0,.int .i64 0,.int .i64 0,.int .i64 0,.int .i64 0,.slice none 0 0,.slice none 0 0,.slice none 0 0,.slice none 0 0] w.heap.size 0 HBR.out (Nat.le_refl _)
           rw [chain13] at hZ1 hB1
           have HZ1:=hide (And.intro hZ1 hB1)
           clear hZ1 hB1
           go_wp2_with fail
           refine ret_gen (fun W => BlkAt W w.heap.size [.string ⟨#[]⟩,.string ⟨#[]⟩,.int .i64 0,.int .i64 0,.slice none 0 0,.int .i64 0,.int .i64 0,.int .i64 0,.int .i64 0,.slice none 0 0,.slice none 0 0,.slice none 0 0,.slice none 0 0] ∧ Below w.heap.size w W) HZ1.out ?_
           rintro WF ⟨hk,hb⟩
           obtain ⟨⟨k0,-⟩,⟨k1,-⟩,⟨k2,-⟩,⟨k3,-⟩,⟨k4,-⟩,⟨k5,-⟩,⟨k6,-⟩,⟨k7,-⟩,⟨k8,-⟩,⟨k9,-⟩,⟨k10,-⟩,⟨k11,-⟩,⟨k12,-⟩⟩:=hk.c13
           refine bodyPost_ret (v:=.tuple #[noEvent,.int .i64 j,.bool false]) (by simp [results,Tryz.results21,go_sem,noEvent,k0,k1,k2,k3,k4,k5,k6,k7,k8,k9,k10,k11,k12]) rfl ?_
           rw [HF.out]
           exact ⟨hb,rfl⟩
         ·have e3 : (N == [69,78,68]) = false:=beq_eq_false_iff_ne.2 hE
          have HNB:=hide (And.intro hN hE)
          clear hN hE
          go_wp2_with fail
          refine (HSP.out _).mono ?_
          rintro _ wv ⟨rfl,hbv⟩
          replace HZ:=hide (HZ.out.keep hbv)
          replace HX:=hide (HX.out.keep hbv)
          replace HS:=hide (HS.out.keep hbv)
          replace HBR:=hide (andthen HBR.out hbv)
          clear hbv p1 HSP
          go_wp2_with fail
          refine (rknown_any N _).mono ?_
          rintro _ w5 ⟨k,rfl,hkn,hbv⟩
          replace HZ:=hide (HZ.out.keep hbv)
          replace HX:=hide (HX.out.keep hbv)
          replace HS:=hide (HS.out.keep hbv)
          replace HBR:=hide (andthen HBR.out hbv)
          clear hbv
          rcases hkn with ⟨kk,rfl,hkk⟩ | ⟨rfl,hno⟩
          ·have hk7:=knr_lt hkk
           have hk0 : (0 : Int) ≤ (kk : Int):=by omega
           have hk1 : (kk : Int) < 7:=by omega
           have hk2 : ¬ (kk : Int) < 0:=by omega
           obtain ⟨hks,hkv⟩:=seen_at (seen:=seen) hkk
           have s0:=HS.out.cell kk hks
           rw [hkv] at s0
           have sf0:=HS.out.free kk
           have HKK:=hide hkk
           have HKN : Hid (N ∈ kN):=hide (List.mem_of_getElem? hkk)
           clear hkk hkv
           cases hd : decide (N ∈ seen) with
           | true =>
            have HF : Hid (P = (none,j)):=hide (HGR.out.symm.trans (Ev.go_dup hlt HO2.out HKN.out (of_decide_eq_true hd)))
            rw [hd] at s0
            clear hd
            obtain ⟨⟨z0,zf0⟩,⟨z1,zf1⟩,⟨z2,zf2⟩,⟨z3,zf3⟩,⟨z4,zf4⟩,⟨z5,zf5⟩,⟨z6,zf6⟩,⟨z7,zf7⟩,⟨z8,zf8⟩,⟨z9,zf9⟩,⟨z10,zf10⟩,⟨z11,zf11⟩,⟨z12,zf12⟩⟩:=HZ.out.c13
            have hlz:=HZ.out.lt
            have hZ1:=HZ.out.all [.string ⟨#[]⟩,.string ⟨#[]⟩,.int .i64 0,.int .i64 0,.slice none 0 0,.int .i64 0,.int .i64 0,.int .i64 0,.int .i64 0,.slice none 0 0,.slice none 0 0,.slice none 0 0,.slice none 0 0] rfl
            have hB1:=all_below [.string ⟨#[]⟩,.string ⟨#[]⟩,.int .i64 0,.int .i64 0,.slice none 0 0,.int .i64 0,.int .i64 0,.int .i64 0,.int .i64 0,.slice none 0 0,.slice none 0 0,.slice none 0 0,.slice none 0 0] w.heap.size 0 HBR.out (Nat.le_refl _)
            rw [chain13] at hZ1 hB1
            have HZ1:=hide (And.intro hZ1 hB1)
            clear hZ1 hB1
            go_wp2_with fail
            refine ret_gen (fun W => BlkAt W w.heap.size [.string ⟨#[]⟩,.string ⟨#[]⟩,.int .i64 0,.int .i64 0,.slice none 0 0,.int .i64 0,.int .i64 0,.int .i64 0,.int .i64 0,.slice none 0 0,.slice none 0 0,.slice none 0 0,.slice none 0 0] ∧ Below w.heap.size w W) HZ1.out ?_
            rintro WF ⟨hk,hb⟩
            obtain ⟨⟨k0,-⟩,⟨k1,-⟩,⟨k2,-⟩,⟨k3,-⟩,⟨k4,-⟩,⟨k5,-⟩,⟨k6,-⟩,⟨k7,-⟩,⟨k8,-⟩,⟨k9,-⟩,⟨k10,-⟩,⟨k11,-⟩,⟨k12,-⟩⟩:=hk.c13
            refine bodyPost_ret (v:=.tuple #[noEvent,.int .i64 j,.bool false]) (by simp [results,Tryz.results21,go_sem,noEvent,k0,k1,k2,k3,k4,k5,k6,k7,k8,k9,k10,k11,k12]) rfl ?_
            rw [HF.out]
            exact ⟨hb,rfl⟩
           | false =>
            rw [hd] at s0
            have HST:=hide (fun w h => dset_any N t HKN.out w3.heap.size (w3.heap.size + 2) e m w h ht)
            have HNS:=hide (of_decide_eq_false hd)
            obtain ⟨Q,hQ⟩ : ∃ Q,Ev.setE unU e N t = Q:=⟨_,rfl⟩
            rw [hQ] at HST
            have HQ:=hide hQ
            clear hd hQ
            go_wp2_with fail
            refine (HST.out _ HX.out).mono ?_
            rintro _ w6 ⟨hg,h3⟩
            have hxl:=HX.out.k.lt
            replace HZ:=hide (HZ.out.grow hg (fun e => by injection e with e; omega))
            replace HS:=hide (HS.out.grow hg (fun e => by injection e with e; omega))
            replace HBR:=hide (HBR.out.grown hg HBR.out.size fun k hk => (by injection hk with hk; omega))
            clear hg HX HST s0 sf0
            cases Q with
            | none =>
             subst h3
             have HF : Hid (P = (none,j)):=hide (HGR.out.symm.trans (Ev.go_bad hlt HO2.out HKN.out HQ.out))
             obtain ⟨⟨z0,zf0⟩,⟨z1,zf1⟩,⟨z2,zf2⟩,⟨z3,zf3⟩,⟨z4,zf4⟩,⟨z5,zf5⟩,⟨z6,zf6⟩,⟨z7,zf7⟩,⟨z8,zf8⟩,⟨z9,zf9⟩,⟨z10,zf10⟩,⟨z11,zf11⟩,⟨z12,zf12⟩⟩:=HZ.out.c13
             have hlz:=HZ.out.lt
             have hZ1:=HZ.out.all [.string ⟨#[]⟩,.string ⟨#[]⟩,.int .i64 0,.int .i64 0,.slice none 0 0,.int .i64 0,.int .i64 0,.int .i64 0,.int .i64 0,.slice none 0 0,.slice none 0 0,.slice none 0 0,.slice none 0 0] rfl
             have hB1:=all_below [.string ⟨#[]⟩,.string ⟨#[]⟩,.int .i64 0,.int .i64 0,.slice none 0 0,.int .i64 0,.int .i64 0,.int .i64 0,.int .i64 0,.slice none 0 0,.slice none 0 0,.slice none 0 0,.slice none 0 0] w.heap.size 0 HBR.out (Nat.le_refl _)
             rw [chain13] at hZ1 hB1
             have HZ1:=hide (And.intro hZ1 hB1)
             clear hZ1 hB1
             go_wp2_with fail
             refine ret_gen (fun W => BlkAt W w.heap.size [.string ⟨#[]⟩,.string ⟨#[]⟩,.int .i64 0,.int .i64 0,.slice none 0 0,.int .i64 0,.int .i64 0,.int .i64 0,.int .i64 0,.slice none 0 0,.slice none 0 0,.slice none 0 0,.slice none 0 0] ∧ Below w.heap.size w W) HZ1.out ?_
             rintro WF ⟨hk,hb⟩
             obtain ⟨⟨k0,-⟩,⟨k1,-⟩,⟨k2,-⟩,⟨k3,-⟩,⟨k4,-⟩,⟨k5,-⟩,⟨k6,-⟩,⟨k7,-⟩,⟨k8,-⟩,⟨k9,-⟩,⟨k10,-⟩,⟨k11,-⟩,⟨k12,-⟩⟩:=hk.c13
             refine bodyPost_ret (v:=.tuple #[noEvent,.int .i64 j,.bool false]) (by simp [results,Tryz.results21,go_sem,noEvent,k0,k1,k2,k3,k4,k5,k6,k7,k8,k9,k10,k11,k12]) rfl ?_
             rw [HF.out]
             exact ⟨hb,rfl⟩
            | some e' =>
             obtain ⟨rfl,m',hx⟩:=h3
             have HX:=hide hx
             have HG2:=hide ((Ev.go_set hlt HO2.out HKN.out HNS.out HQ.out).symm.trans HGR.out)
             obtain ⟨hks,hkv⟩:=seen_at (seen:=seen) HKK.out
             have s0:=HS.out.cell kk hks
             have sf0:=HS.out.free kk
             rw [hkv] at s0
             have HXN:=hide (HX.out.far (c:=w3.heap.size + 1) (i:=kk) (y:=.bool true) (by omega) (by omega))
             have HSN:=hide ((HS.out.set kk (.bool true) hks).is (seen_set HKK.out))
             have HZN:=hide (HZ.out.far (c:=w3.heap.size + 1) (i:=kk) (y:=.bool true) (by omega))
             have HBN:=hide (HBR.out.setCell (p:=⟨w3.heap.size + 1,kk,none⟩) (by show w.heap.size ≤ w3.heap.size + 1; omega) (.bool true))
             clear hx hks hkv HX HS HZ HBR
             go_wp2_with fail
             go_roundw
             case rel => exact ⟨j + 1,e',m',seen ++ [N],by omega,by omega,by go_num,HXN.out,HSN.out,HZN.out,HG2,HBN.out⟩
             case measure => simp [intOf]; omega
          ·have HG2:=hide ((Ev.go_other hlt HO2.out HNB.out.1 HNB.out.2 hno).symm.trans HGR.out)
           clear hno
           go_wp2_with fail
           go_roundw
           case rel => exact ⟨j + 1,e,m,seen,by omega,by omega,by go_num,HX.out,HS.out,HZ.out,HG2,HBR.out⟩
           case measure => simp [intOf]; omega
      ·obtain rfl : j = l.length:=by omega
       have HF : Hid (P = (none,l.length)):=hide (HGR.out.symm.trans Ev.go_out)
       obtain ⟨⟨z0,zf0⟩,⟨z1,zf1⟩,⟨z2,zf2⟩,⟨z3,zf3⟩,⟨z4,zf4⟩,⟨z5,zf5⟩,⟨z6,zf6⟩,⟨z7,zf7⟩,⟨z8,zf8⟩,⟨z9,zf9⟩,⟨z10,zf10⟩,⟨z11,zf11⟩,⟨z12,zf12⟩⟩:=HZ.out.c13
       have hlz:=HZ.out.lt
       have hZ1:=HZ.out.all [.string ⟨#[]⟩,.string ⟨#[]⟩,.int .i64 0,.int .i64 0,.slice none 0 0,.int .i64 0,.int .i64 0,.int .i64 0,.int .i64 0,.slice none 0 0,.slice none 0 0,.slice none 0 0,.slice none 0 0] rfl
       have hB1:=all_below [.string ⟨#[]⟩,.string ⟨#[]⟩,.int .i64 0,.int .i64 0,.slice none 0 0,.int .i64 0,.int .i64 0,.int .i64 0,.int .i64 0,.slice none 0 0,.slice none 0 0,.slice none 0 0,.slice none 0 0] w.heap.size 0 HBR.out (Nat.le_refl _)
       rw [chain13] at hZ1 hB1
       have HZ1:=hide (And.intro hZ1 hB1)
       clear hZ1 hB1
       go_wp2_with fail
       refine ret_gen (fun W => BlkAt W w.heap.size [.string ⟨#[]⟩,.string ⟨#[]⟩,.int .i64 0,.int .i64 0,.slice none 0 0,.int .i64 0,.int .i64 0,.int .i64 0,.int .i64 0,.slice none 0 0,.slice none 0 0,.slice none 0 0,.slice none 0 0] ∧ Below w.heap.size w W) HZ1.out ?_
       rintro WF ⟨hk,hb⟩
       obtain ⟨⟨k0,-⟩,⟨k1,-⟩,⟨k2,-⟩,⟨k3,-⟩,⟨k4,-⟩,⟨k5,-⟩,⟨k6,-⟩,⟨k7,-⟩,⟨k8,-⟩,⟨k9,-⟩,⟨k10,-⟩,⟨k11,-⟩,⟨k12,-⟩⟩:=hk.c13
       refine bodyPost_ret (v:=.tuple #[noEvent,.int .i64 l.length,.bool false]) (by simp [results,Tryz.results21,go_sem,noEvent,k0,k1,k2,k3,k4,k5,k6,k7,k8,k9,k10,k11,k12]) rfl ?_
       rw [HF.out]
       exact ⟨hb,rfl⟩
    ·have e2 : (G == [86,69,86,69,78,84]) = false:=beq_eq_false_iff_ne.2 hW
     have HF : Hid (P = (none,0)):=hide (by rw [HPO.out]; exact firstR_no (fun h => hW (by rw [← hG]; exact h.2)))
     clear HPO htl hG hN hW
     go_enter Tryz.func21,Tryz.ntmps21
     go_wp2_with fail
     refine (HSP.out _).mono ?_
     rintro _ wv ⟨rfl,hbv⟩
     replace HZ:=hide (HZ.out.keep hbv)
     replace HBR:=hide (andthen HBR.out hbv)
     clear hbv p1
     go_wp2_with fail
     refine (HG.out _).mono ?_
     rintro _ w2 ⟨rfl,hbv⟩
     replace HZ:=hide (HZ.out.keep hbv)
     replace HBR:=hide (andthen HBR.out hbv)
     clear hbv
     obtain ⟨⟨z0,zf0⟩,⟨z1,zf1⟩,⟨z2,zf2⟩,⟨z3,zf3⟩,⟨z4,zf4⟩,⟨z5,zf5⟩,⟨z6,zf6⟩,⟨z7,zf7⟩,⟨z8,zf8⟩,⟨z9,zf9⟩,⟨z10,zf10⟩,⟨z11,zf11⟩,⟨z12,zf12⟩⟩:=HZ.out.c13
     have hlz:=HZ.out.lt
     have hZ1:=HZ.out.all [.string ⟨#[]⟩,.string ⟨#[]⟩,.int .i64 0,.int .i64 0,.slice none 0 0,.int .i64 0,.int .i64 0,.int .i64 0,.int .i64 0,.slice none 0 0,.slice none 0 0,.slice none 0 0,.slice none 0 0] rfl
     have hB1:=all_below [.string ⟨#[]⟩,.string ⟨#[]⟩,.int .i64 0,.int .i64 0,.slice none 0 0,.int .i64 0,.int .i64 0,.int .i64 0,.int .i64 0,.slice none 0 0,.slice none 0 0,.slice none 0 0,.slice none 0 0] w.heap.size 0 HBR.out (Nat.le_refl _)
     rw [chain13] at hZ1 hB1
     have HZ1:=hide (And.intro hZ1 hB1)
     clear hZ1 hB1
     go_wp2_with fail
     refine ret_gen (fun W => BlkAt W w.heap.size [.string ⟨#[]⟩,.string ⟨#[]⟩,.int .i64 0,.int .i64 0,.slice none 0 0,.int .i64 0,.int .i64 0,.int .i64 0,.int .i64 0,.slice none 0 0,.slice none 0 0,.slice none 0 0,.slice none 0 0] ∧ Below w.heap.size w W) HZ1.out ?_
     rintro WF ⟨hk,hb⟩
     obtain ⟨⟨k0,-⟩,⟨k1,-⟩,⟨k2,-⟩,⟨k3,-⟩,⟨k4,-⟩,⟨k5,-⟩,⟨k6,-⟩,⟨k7,-⟩,⟨k8,-⟩,⟨k9,-⟩,⟨k10,-⟩,⟨k11,-⟩,⟨k12,-⟩⟩:=hk.c13
     refine bodyPost_ret (v:=.tuple #[noEvent,.int .i64 0,.bool false]) (by simp [results,Tryz.results21,go_sem,noEvent,k0,k1,k2,k3,k4,k5,k6,k7,k8,k9,k10,k11,k12]) rfl ?_
     rw [HF.out]
     exact ⟨hb,rfl⟩
   ·have e1 : (N == [66,69,71,73,78]) = false:=beq_eq_false_iff_ne.2 hN
    have HF : Hid (P = (none,0)):=hide (by rw [HPO.out]; exact firstR_no (fun h => hN h.1))
    clear HPO htl hN
    go_enter Tryz.func21,Tryz.ntmps21
    go_wp2_with fail
    refine (HSP.out _).mono ?_
    rintro _ wv ⟨rfl,hbv⟩
    replace HZ:=hide (HZ.out.keep hbv)
    replace HBR:=hide (andthen HBR.out hbv)
    clear hbv p1
    obtain ⟨⟨z0,zf0⟩,⟨z1,zf1⟩,⟨z2,zf2⟩,⟨z3,zf3⟩,⟨z4,zf4⟩,⟨z5,zf5⟩,⟨z6,zf6⟩,⟨z7,zf7⟩,⟨z8,zf8⟩,⟨z9,zf9⟩,⟨z10,zf10⟩,⟨z11,zf11⟩,⟨z12,zf12⟩⟩:=HZ.out.c13
    have hlz:=HZ.out.lt
    have hZ1:=HZ.out.all [.string ⟨#[]⟩,.string ⟨#[]⟩,.int .i64 0,.int .i64 0,.slice none 0 0,.int .i64 0,.int .i64 0,.int .i64 0,.int .i64 0,.slice none 0 0,.slice none 0 0,.slice none 0 0,.slice none 0 0] rfl
    have hB1:=all_below [.string ⟨#[]⟩,.string ⟨#[]⟩,.int .i64 0,.int .i64 0,.slice none 0 0,.int .i64 0,.int .i64 0,.int .i64 0,.int .i64 0,.slice none 0 0,.slice none 0 0,.slice none 0 0,.slice none 0 0] w.heap.size 0 HBR.out (Nat.le_refl _)
    rw [chain13] at hZ1 hB1
    have HZ1:=hide (And.intro hZ1 hB1)
    clear hZ1 hB1
    go_wp2_with fail
    refine ret_gen (fun W => BlkAt W w.heap.size [.string ⟨#[]⟩,.string ⟨#[]⟩,.int .i64 0,.int .i64 0,.slice none 0 0,.int .i64 0,.int .i64 0,.int .i64 0,.int .i64 0,.slice none 0 0,.slice none 0 0,.slice none 0 0,.slice none 0 0] ∧ Below w.heap.size w W) HZ1.out ?_
    rintro WF ⟨hk,hb⟩
    obtain ⟨⟨k0,-⟩,⟨k1,-⟩,⟨k2,-⟩,⟨k3,-⟩,⟨k4,-⟩,⟨k5,-⟩,⟨k6,-⟩,⟨k7,-⟩,⟨k8,-⟩,⟨k9,-⟩,⟨k10,-⟩,⟨k11,-⟩,⟨k12,-⟩⟩:=hk.c13
    refine bodyPost_ret (v:=.tuple #[noEvent,.int .i64 0,.bool false]) (by simp [results,Tryz.results21,go_sem,noEvent,k0,k1,k2,k3,k4,k5,k6,k7,k8,k9,k10,k11,k12]) rfl ?_
    rw [HF.out]
    exact ⟨hb,rfl⟩

end Go.Proofs.YtgdjeddelcfgeaaGreatDoor

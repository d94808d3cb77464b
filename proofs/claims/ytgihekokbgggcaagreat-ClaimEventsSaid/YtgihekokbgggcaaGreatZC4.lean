/- ClI; ClJ; ClK of the recipes, what is needed of them. -/
import Derived.Deep.RegionHeld3
import Derived.RegionTactic
import Derived.Deep.QuietTactic
import Derived.BigQuiet
import Derived.Test.YtgihekokbgggcaaGreatZClH
import Derived.Test.YtgihekokbgggcaaGreatZC1
set_option maxHeartbeats 8000000
set_option maxRecDepth 1000000
namespace Go.Proofs.YtgihekokbgggcaaGreat.S2
open Go.RowKit Spn Cl
theorem inBoth_any (vs ws : Nat -> Value) (f g : Nat -> List Sp) (w : World) (h : FamR w vs f) (h2 : FamR w ws g) (hn : ∀ r,r < 8 -> (f r).length <= 400000) (hm : ∀ r,r < 8 -> (g r).length <= 400000) :
    Calls Tryz.prog 41 #[famV vs,famV ws] w (GivesF w (comF f g)):=by
  have HFR:=hide h
  have HGR:=hide h2
  have HBX:=hide (more (more (more (more (start w) (.cells #[vs 0,vs 1,vs 2,vs 3,vs 4,vs 5,vs 6,vs 7] 66)) (.cells #[ws 0,ws 1,ws 2,ws 3,ws 4,ws 5,ws 6,ws 7] 66)) (.cells #[.slice none 0 0,.slice none 0 0,.slice none 0 0,.slice none 0 0,.slice none 0 0,.slice none 0 0,.slice none 0 0,.slice none 0 0] 66)) (.cells #[.slice none 0 0,.slice none 0 0,.slice none 0 0,.slice none 0 0,.slice none 0 0,.slice none 0 0,.slice none 0 0,.slice none 0 0] 66))
  have HF0:=fam_new (((w.alloc (.cells #[vs 0,vs 1,vs 2,vs 3,vs 4,vs 5,vs 6,vs 7] 66)).alloc (.cells #[ws 0,ws 1,ws 2,ws 3,ws 4,ws 5,ws 6,ws 7] 66)).alloc (.cells #[.slice none 0 0,.slice none 0 0,.slice none 0 0,.slice none 0 0,.slice none 0 0,.slice none 0 0,.slice none 0 0,.slice none 0 0] 66)) 66
  have hR0 : ∀ r,r < 8 -> ((((w.alloc (.cells #[vs 0,vs 1,vs 2,vs 3,vs 4,vs 5,vs 6,vs 7] 66)).alloc (.cells #[ws 0,ws 1,ws 2,ws 3,ws 4,ws 5,ws 6,ws 7] 66)).alloc (.cells #[.slice none 0 0,.slice none 0 0,.slice none 0 0,.slice none 0 0,.slice none 0 0,.slice none 0 0,.slice none 0 0,.slice none 0 0] 66)).alloc (.cells #[.slice none 0 0,.slice none 0 0,.slice none 0 0,.slice none 0 0,.slice none 0 0,.slice none 0 0,.slice none 0 0,.slice none 0 0] 66)).cell? ⟨w.heap.size + 1 + 1,r,none⟩ = some (.slice none 0 0):=fun r h => by
    have:=cell_keep (more (start (((w.alloc (.cells #[vs 0,vs 1,vs 2,vs 3,vs 4,vs 5,vs 6,vs 7] 66)).alloc (.cells #[ws 0,ws 1,ws 2,ws 3,ws 4,ws 5,ws 6,ws 7] 66)).alloc (.cells #[.slice none 0 0,.slice none 0 0,.slice none 0 0,.slice none 0 0,.slice none 0 0,.slice none 0 0,.slice none 0 0,.slice none 0 0] 66))) (.cells #[.slice none 0 0,.slice none 0 0,.slice none 0 0,.slice none 0 0,.slice none 0 0,.slice none 0 0,.slice none 0 0,.slice none 0 0] 66)) (zero8 ((w.alloc (.cells #[vs 0,vs 1,vs 2,vs 3,vs 4,vs 5,vs 6,vs 7] 66)).alloc (.cells #[ws 0,ws 1,ws 2,ws 3,ws 4,ws 5,ws 6,ws 7] 66)) 66 r h)
    rwa [World.size_alloc,World.size_alloc] at this
  have hR1 : ∀ r,((((w.alloc (.cells #[vs 0,vs 1,vs 2,vs 3,vs 4,vs 5,vs 6,vs 7] 66)).alloc (.cells #[ws 0,ws 1,ws 2,ws 3,ws 4,ws 5,ws 6,ws 7] 66)).alloc (.cells #[.slice none 0 0,.slice none 0 0,.slice none 0 0,.slice none 0 0,.slice none 0 0,.slice none 0 0,.slice none 0 0,.slice none 0 0] 66)).alloc (.cells #[.slice none 0 0,.slice none 0 0,.slice none 0 0,.slice none 0 0,.slice none 0 0,.slice none 0 0,.slice none 0 0,.slice none 0 0] 66)).frozen? ⟨w.heap.size + 1 + 1,r,none⟩ = false:=fun r => by
    have:=zeroF ((w.alloc (.cells #[vs 0,vs 1,vs 2,vs 3,vs 4,vs 5,vs 6,vs 7] 66)).alloc (.cells #[ws 0,ws 1,ws 2,ws 3,ws 4,ws 5,ws 6,ws 7] 66)) 66 r
    rw [World.size_alloc,World.size_alloc] at this
    exact ((more (start (((w.alloc (.cells #[vs 0,vs 1,vs 2,vs 3,vs 4,vs 5,vs 6,vs 7] 66)).alloc (.cells #[ws 0,ws 1,ws 2,ws 3,ws 4,ws 5,ws 6,ws 7] 66)).alloc (.cells #[.slice none 0 0,.slice none 0 0,.slice none 0 0,.slice none 0 0,.slice none 0 0,.slice none 0 0,.slice none 0 0,.slice none 0 0] 66))) (.cells #[.slice none 0 0,.slice none 0 0,.slice none 0 0,.slice none 0 0,.slice none 0 0,.slice none 0 0,.slice none 0 0,.slice none 0 0] 66)).frozen (p:=⟨w.heap.size + 1 + 1,r,none⟩) (by simp)).trans this
  have hV : ∀ r,r < 8 -> ((((w.alloc (.cells #[vs 0,vs 1,vs 2,vs 3,vs 4,vs 5,vs 6,vs 7] 66)).alloc (.cells #[ws 0,ws 1,ws 2,ws 3,ws 4,ws 5,ws 6,ws 7] 66)).alloc (.cells #[.slice none 0 0,.slice none 0 0,.slice none 0 0,.slice none 0 0,.slice none 0 0,.slice none 0 0,.slice none 0 0,.slice none 0 0] 66)).alloc (.cells #[.slice none 0 0,.slice none 0 0,.slice none 0 0,.slice none 0 0,.slice none 0 0,.slice none 0 0,.slice none 0 0,.slice none 0 0] 66)).cell? ⟨w.heap.size,r,none⟩ = some (vs r) /\ ((((w.alloc (.cells #[vs 0,vs 1,vs 2,vs 3,vs 4,vs 5,vs 6,vs 7] 66)).alloc (.cells #[ws 0,ws 1,ws 2,ws 3,ws 4,ws 5,ws 6,ws 7] 66)).alloc (.cells #[.slice none 0 0,.slice none 0 0,.slice none 0 0,.slice none 0 0,.slice none 0 0,.slice none 0 0,.slice none 0 0,.slice none 0 0] 66)).alloc (.cells #[.slice none 0 0,.slice none 0 0,.slice none 0 0,.slice none 0 0,.slice none 0 0,.slice none 0 0,.slice none 0 0,.slice none 0 0] 66)).cell? ⟨w.heap.size + 1,r,none⟩ = some (ws r):=fun r h => by
    have a:=cell_keep (more (more (more (start (w.alloc (.cells #[vs 0,vs 1,vs 2,vs 3,vs 4,vs 5,vs 6,vs 7] 66))) (.cells #[ws 0,ws 1,ws 2,ws 3,ws 4,ws 5,ws 6,ws 7] 66)) (.cells #[.slice none 0 0,.slice none 0 0,.slice none 0 0,.slice none 0 0,.slice none 0 0,.slice none 0 0,.slice none 0 0,.slice none 0 0] 66)) (.cells #[.slice none 0 0,.slice none 0 0,.slice none 0 0,.slice none 0 0,.slice none 0 0,.slice none 0 0,.slice none 0 0,.slice none 0 0] 66)) (box8 w 66 vs r h)
    have b:=cell_keep (more (more (start ((w.alloc (.cells #[vs 0,vs 1,vs 2,vs 3,vs 4,vs 5,vs 6,vs 7] 66)).alloc (.cells #[ws 0,ws 1,ws 2,ws 3,ws 4,ws 5,ws 6,ws 7] 66))) (.cells #[.slice none 0 0,.slice none 0 0,.slice none 0 0,.slice none 0 0,.slice none 0 0,.slice none 0 0,.slice none 0 0,.slice none 0 0] 66)) (.cells #[.slice none 0 0,.slice none 0 0,.slice none 0 0,.slice none 0 0,.slice none 0 0,.slice none 0 0,.slice none 0 0,.slice none 0 0] 66)) (box8 (w.alloc (.cells #[vs 0,vs 1,vs 2,vs 3,vs 4,vs 5,vs 6,vs 7] 66)) 66 ws r h)
    rw [World.size_alloc] at b
    exact ⟨a,b⟩
  rw [World.size_alloc,World.size_alloc,World.size_alloc] at HF0
  clear h h2
  unfold famV
  go_enter Tryz.func41,Tryz.ntmps41
  go_wp2_with fail
  generalize ((((w.alloc (.cells #[vs 0,vs 1,vs 2,vs 3,vs 4,vs 5,vs 6,vs 7] 66)).alloc (.cells #[ws 0,ws 1,ws 2,ws 3,ws 4,ws 5,ws 6,ws 7] 66)).alloc (.cells #[.slice none 0 0,.slice none 0 0,.slice none 0 0,.slice none 0 0,.slice none 0 0,.slice none 0 0,.slice none 0 0,.slice none 0 0] 66)).alloc (.cells #[.slice none 0 0,.slice none 0 0,.slice none 0 0,.slice none 0 0,.slice none 0 0,.slice none 0 0,.slice none 0 0,.slice none 0 0] 66)) = W at *
  have HF:=hide HF0
  have HR0:=hide hR0
  have HR1:=hide hR1
  have HV:=hide hV
  clear HF0 hR0 hR1 hV
  go_loopw [7] (fun i wr => ∃ (k : Nat) (us : Nat -> Value),k <= 8 /\ i = .int .i64 k /\ Hid (Fam wr (w.heap.size + 1 + 1 + 1) (w.heap.size + 1 + 1 + 1 + 1) us (upto (comF f g) k)) /\ Hid (∀ r,r < 8 -> wr.cell? ⟨w.heap.size + 1 + 1,r,none⟩ = some (.slice none 0 0)) /\ Hid (∀ r,wr.frozen? ⟨w.heap.size + 1 + 1,r,none⟩ = false) /\ Hid (Below w.heap.size w wr) /\ Hid (∀ r,r < 8 -> wr.cell? ⟨w.heap.size,r,none⟩ = some (vs r) /\ wr.cell? ⟨w.heap.size + 1,r,none⟩ = some (ws r))) (fun i _ => 8 - (intOf i).toNat)
  case atStart => exact ⟨0,fun _ => .slice none 0 0,by omega,rfl,hide (HF.out.congr fun r _ => (upto_0 _ r).symm),hide HR0.out,hide HR1.out,hide HBX.out,hide HV.out⟩
  case round =>
    obtain ⟨k,us,hk8,rfl,HFQ,HQ0,HQ1,HBQ,HVQ⟩:=hrel
    by_cases hlt8 : k < 8
    · have hk0 : (0 : Int) <= (k : Int):=by omega
      have hk9 : (k : Int) < 8:=by omega
      obtain ⟨Ak,ck,hvk,hrk,hck⟩:=HFR.out k hlt8
      obtain ⟨Bk,dk,hwk,hsk,hdk⟩:=HGR.out k hlt8
      have hS:=HVQ.out k hlt8
      rw [hvk,hwk] at hS
      have HS:=hide hS
      have HRK:=hide (hrk.keep HBQ.out)
      have HSK:=hide (hsk.keep HBQ.out)
      have HLK:=hide (hn k hlt8)
      have HMK:=hide (hm k hlt8)
      have HCK:=hide hck
      have HDK:=hide hdk
      have hle:=HFQ.out.le
      have hnx1 : w.heap.size + 1 + 1 + 1 ≠ w.heap.size:=by omega
      have hnx2 : w.heap.size + 1 + 1 + 1 ≠ w.heap.size + 1:=by omega
      clear hrk hsk hS hck hdk
      go_wp2_with fail
      go_region_held3 (fun w' => w'.cell? ⟨w.heap.size,k,none⟩ = some (.slice Ak (f k).length ck) /\ w'.cell? ⟨w.heap.size + 1,k,none⟩ = some (.slice Bk (g k).length dk)) (first | exact keepC2 (start wr).drew HS.out | exact keepC2 (andthen (start wr).drew HB2.out) HS.out | exact setC2 _ hnx1 hnx2 (keepC2 (andthen (start wr).drew HB2.out) HS.out)) ((first
        | (go_at_call 60; (with_reducible refine (common_any Ak Bk _ _ ck dk (f k) (g k) wr.drew (HRK.out.keep (start wr).drew) (HSK.out.keep (start wr).drew) rfl rfl HCK.out HDK.out HLK.out HMK.out).mono ?_)
           rintro e w2 ⟨v2,rfl,hown2,hb2⟩
           obtain ⟨v4,hv4⟩ : ∃ v,v = v2:=⟨_,rfl⟩
           have HO4:=hide hown2
           have HB2:=hide hb2
           rw [<- hv4] at HO4
           obtain ⟨A2,c2,rfl,_⟩:=Own.row hown2
           have HF2:=hide ((HFQ.out.keep (start wr).drew).keep hb2)
           have hx2:=HF2.out.cell k hlt8
           have hf2:=HF2.out.froz k
           clear hown2 hb2)))
      replace HB2:=hide (andthen (start wr).drew HB2.out)
      replace HO4 : Hid (Own w2 wr.heap.size v4 (com (f k) (g k))):=hide HO4.out
      go_wp2_with fail
      go_roundw
      case rel =>
        have hlo:=HFQ.out.lt
        have hle:=HFQ.out.le
        refine ⟨k + 1,upd us k v4,by omega,by go_num,hide ?_,hide (fun r hr => ?_),hide (fun r => ?_),hide ?_,hide (fun r hr => ?_)⟩
        · rw [<- hv4]
          exact (HF2.out.set hlt8 (HO4.out.low (by first | exact hle | exact Nat.le_trans hle (by simp))) fun q hq _ => freshA (HFQ.out.own q hq) HO4.out).congr fun q _ => upto_upd _ k q
        · rw [World.cell?_setCell_other _ _ _ _ (by intro hc; injection hc with hc; omega)]
          exact cell_keep HB2.out (HQ0.out r hr)
        · rw [World.frozen?_setCell]
          exact (HB2.out.frozen (p:=⟨w.heap.size + 1 + 1,r,none⟩) (by show w.heap.size + 1 + 1 < wr.heap.size; omega)).trans (HQ1.out r)
        · exact Below.setCell (HBQ.out.trans (HB2.out.mono HBQ.out.size)) (show w.heap.size <= w.heap.size + 1 + 1 + 1 by omega) _
        · have a:=keepC2 HB2.out (HVQ.out r hr)
          exact setC2 _ hnx1 hnx2 a
      case measure => simp [intOf]; omega
    · obtain rfl : k = 8:=by omega
      have HFE : Hid (Fam wr (w.heap.size + 1 + 1 + 1) (w.heap.size + 1 + 1 + 1 + 1) us (comF f g)):=hide (HFQ.out.congr fun r hr => upto_8 _ r hr)
      clear HFQ HF HR0 HR1 HBX HV HVQ
      obtain ⟨p0,p1,p2,p3,p4,p5,p6,p7⟩ : wr.cell? ⟨w.heap.size + 1 + 1 + 1,0,none⟩ = some (us 0) /\ wr.cell? ⟨w.heap.size + 1 + 1 + 1,1,none⟩ = some (us 1) /\ wr.cell? ⟨w.heap.size + 1 + 1 + 1,2,none⟩ = some (us 2) /\ wr.cell? ⟨w.heap.size + 1 + 1 + 1,3,none⟩ = some (us 3) /\ wr.cell? ⟨w.heap.size + 1 + 1 + 1,4,none⟩ = some (us 4) /\ wr.cell? ⟨w.heap.size + 1 + 1 + 1,5,none⟩ = some (us 5) /\ wr.cell? ⟨w.heap.size + 1 + 1 + 1,6,none⟩ = some (us 6) /\ wr.cell? ⟨w.heap.size + 1 + 1 + 1,7,none⟩ = some (us 7) :=
        ⟨HFE.out.cell 0 (by omega),HFE.out.cell 1 (by omega),HFE.out.cell 2 (by omega),HFE.out.cell 3 (by omega),HFE.out.cell 4 (by omega),HFE.out.cell 5 (by omega),HFE.out.cell 6 (by omega),HFE.out.cell 7 (by omega)⟩
      obtain ⟨q0,q1,q2,q3,q4,q5,q6,q7⟩ : wr.cell? ⟨w.heap.size + 1 + 1,0,none⟩ = some (.slice none 0 0) /\ wr.cell? ⟨w.heap.size + 1 + 1,1,none⟩ = some (.slice none 0 0) /\ wr.cell? ⟨w.heap.size + 1 + 1,2,none⟩ = some (.slice none 0 0) /\ wr.cell? ⟨w.heap.size + 1 + 1,3,none⟩ = some (.slice none 0 0) /\ wr.cell? ⟨w.heap.size + 1 + 1,4,none⟩ = some (.slice none 0 0) /\ wr.cell? ⟨w.heap.size + 1 + 1,5,none⟩ = some (.slice none 0 0) /\ wr.cell? ⟨w.heap.size + 1 + 1,6,none⟩ = some (.slice none 0 0) /\ wr.cell? ⟨w.heap.size + 1 + 1,7,none⟩ = some (.slice none 0 0) :=
        ⟨HQ0.out 0 (by omega),HQ0.out 1 (by omega),HQ0.out 2 (by omega),HQ0.out 3 (by omega),HQ0.out 4 (by omega),HQ0.out 5 (by omega),HQ0.out 6 (by omega),HQ0.out 7 (by omega)⟩
      have f0:=HQ1.out 0
      have f1:=HQ1.out 1
      have f2:=HQ1.out 2
      have f3:=HQ1.out 3
      have f4:=HQ1.out 4
      have f5:=HQ1.out 5
      have f6:=HQ1.out 6
      have f7:=HQ1.out 7
      obtain ⟨A0,c0,e0,_⟩:=Own.row (HFE.out.own 0 (by omega))
      obtain ⟨A1,c1,e1,_⟩:=Own.row (HFE.out.own 1 (by omega))
      obtain ⟨A2,c2,e2,_⟩:=Own.row (HFE.out.own 2 (by omega))
      obtain ⟨A3,c3,e3,_⟩:=Own.row (HFE.out.own 3 (by omega))
      obtain ⟨A4,c4,e4,_⟩:=Own.row (HFE.out.own 4 (by omega))
      obtain ⟨A5,c5,e5,_⟩:=Own.row (HFE.out.own 5 (by omega))
      obtain ⟨A6,c6,e6,_⟩:=Own.row (HFE.out.own 6 (by omega))
      obtain ⟨A7,c7,e7,_⟩:=Own.row (HFE.out.own 7 (by omega))
      rw [e0] at p0; rw [e1] at p1; rw [e2] at p2; rw [e3] at p3; rw [e4] at p4; rw [e5] at p5; rw [e6] at p6; rw [e7] at p7
      go_wp2_with fail
      rw [<- e0,<- e1,<- e2,<- e3,<- e4,<- e5,<- e6,<- e7]
      obtain ⟨r0,r1,r2,r3,r4,r5,r6,r7⟩:=set8_cell wr (w.heap.size + 1 + 1) us (v:=fun _ => .slice none 0 0) (fun k hk => HQ0.out k hk)
      have HBE:=hide (set8_below us HBQ.out (show w.heap.size <= w.heap.size + 1 + 1 by omega))
      have HOE:=hide (fun r (hr : r < 8) => Own.low (B:=w.heap.size) (set8_own (b:=w.heap.size + 1 + 1) us (HFE.out.own r hr) (by omega)) (by omega))
      unfold set8 at r0 r1 r2 r3 r4 r5 r6 r7 HBE HOE
      clear q0 q1 q2 q3 q4 q5 q6 q7 f0 f1 f2 f3 f4 f5 f6 f7 p0 p1 p2 p3 p4 p5 p6 p7 e0 e1 e2 e3 e4 e5 e6 e7 HFE HQ0 HQ1 HBQ
      generalize ((((((((wr.setCell ⟨w.heap.size + 1 + 1,0,none⟩ (us 0)).setCell ⟨w.heap.size + 1 + 1,1,none⟩ (us 1)).setCell ⟨w.heap.size + 1 + 1,2,none⟩ (us 2)).setCell ⟨w.heap.size + 1 + 1,3,none⟩ (us 3)).setCell ⟨w.heap.size + 1 + 1,4,none⟩ (us 4)).setCell ⟨w.heap.size + 1 + 1,5,none⟩ (us 5)).setCell ⟨w.heap.size + 1 + 1,6,none⟩ (us 6)).setCell ⟨w.heap.size + 1 + 1,7,none⟩ (us 7)) = WZ at *
      (try simp only [Exit.inBlock,Exit.then])
      refine bodyPost_ret (v:=famV us) ?_ rfl ⟨us,rfl,HOE.out,HBE.out⟩
      rw [results_cell1 rfl]
      go_simp
      rfl
end Go.Proofs.YtgihekokbgggcaaGreat.S2
namespace Go.Proofs.YtgihekokbgggcaaGreat.S2
open Go.RowKit Spn Cl
theorem takeC_ne {l k : List C} {i : Nat} (hi : i < l.length) (hk : i < k.length) (h : l[i] ≠ k[i]) : l ≠ k:=by
 rintro rfl; exact h rfl
theorem sameC_all {l k : List C} (hl : l.length = k.length) (h : l.take l.length = k.take l.length) : l = k:=by
 rw [List.take_length,hl,List.take_length] at h; exact h
theorem equalC_any (A B : Option Addr) (n m c d : Nat) (l k : List C) (w : World) (hl : RowC w A l) (hk : RowC w B k) (hn : n = l.length) (hm : m = k.length) (hsz : l.length <= 1000000) (hsk : k.length <= 1000000) :
  Calls Tryz.prog 45 #[.slice A n c,.slice B m d] w fun e w' => e = .returned (.bool (decide (l = k))) /\ Below w.heap.size w w':=by
 subst hn hm
 by_cases hlen : l.length = k.length
 ·by_cases hnil : l = []
  ·subst hnil
   have hkn : k = []:=List.eq_nil_of_length_eq_zero hlen.symm
   subst hkn
   go_enter Tryz.func45,Tryz.ntmps45
   go_wp2_with fail
   refine wp_loop_rounds 1 ?_
   rw [rounds_succ]
   go_wp2_with fail
   go_ret
   exact ⟨rfl,start _⟩
  ·obtain ⟨b1,o1,rfl,hb1,hc1⟩:=hl hnil
   obtain ⟨b2,o2,rfl,hb2,hc2⟩:=hk (by rintro rfl; exact hnil (List.eq_nil_of_length_eq_zero hlen))
   have HC1:=hide hc1
   have HC2:=hide hc2
   have HL:=hide hlen
   rw [<- hlen]
   clear hl hk hc1 hc2 hlen hnil
   go_enter Tryz.func45,Tryz.ntmps45
   go_wp2_with fail
   go_loopw [13] (fun i wr => ∃ j : Nat,j <= l.length /\ i = .int .i64 j /\ l.take j = k.take j /\ Below w.heap.size w wr) (fun i _ => l.length - (intOf i).toNat)
   case atStart => exact ⟨0,Nat.zero_le _,rfl,rfl,start _⟩
   case round =>
    obtain ⟨j,hj,rfl,heq,hbw⟩:=hrel
    have HE:=hide heq
    clear heq
    by_cases hlt : j < l.length
    ·have hlk : j < k.length:=by have:=HL.out; omega
     obtain ⟨x1,x2,x3⟩:=HC1.out j hlt
     obtain ⟨y1,y2,y3⟩:=HC2.out j hlk
     have HTL:=hide (show l.take (j + 1) = l.take j ++ [l[j]] from List.take_succ_eq_append_getElem hlt)
     have HTK:=hide (show k.take (j + 1) = k.take j ++ [k[j]] from List.take_succ_eq_append_getElem hlk)
     have HNE:=hide (fun (h : l[j] ≠ k[j]) => takeC_ne hlt hlk h)
     obtain ⟨u,hu⟩ : ∃ u,l[j] = u:=⟨_,rfl⟩
     obtain ⟨v,hv⟩ : ∃ v,k[j] = v:=⟨_,rfl⟩
     rw [hu] at x1 x2 x3 HTL HNE
     rw [hv] at y1 y2 y3 HTK HNE
     obtain ⟨a,f,t⟩:=u
     obtain ⟨b,g,s⟩:=v
     have p1 : wr.cell? ⟨b1,o1 + j * 3,none⟩ = some (.int .i64 a):=(hbw.cell (p:=⟨b1,_,none⟩) hb1).trans x1
     have p2 : wr.cell? ⟨b1,o1 + j * 3 + 1,none⟩ = some (.int .i64 f):=(hbw.cell (p:=⟨b1,_,none⟩) hb1).trans x2
     have p3 : wr.cell? ⟨b1,o1 + j * 3 + 2,none⟩ = some (.int .i64 t):=(hbw.cell (p:=⟨b1,_,none⟩) hb1).trans x3
     have p4 : wr.cell? ⟨b2,o2 + j * 3,none⟩ = some (.int .i64 b):=(hbw.cell (p:=⟨b2,_,none⟩) hb2).trans y1
     have p5 : wr.cell? ⟨b2,o2 + j * 3 + 1,none⟩ = some (.int .i64 g):=(hbw.cell (p:=⟨b2,_,none⟩) hb2).trans y2
     have p6 : wr.cell? ⟨b2,o2 + j * 3 + 2,none⟩ = some (.int .i64 s):=(hbw.cell (p:=⟨b2,_,none⟩) hb2).trans y3
     have hi0 : (0 : Int) <= (j : Int):=by omega
     have hi1 : (j : Int) < (l.length : Int):=by omega
     clear x1 x2 x3 y1 y2 y3 hu hv
     cases e1 : (a == b)
     ·have HN : Hid (l ≠ k):=hide (HNE.out (by intro h; injection h with h1 h2; rw [h1,beq_self_eq_true] at e1; cases e1))
      go_wp2_with fail
      go_quiet (fail)
      go_wp2_with fail
      go_ret
      exact ⟨ret_bool (decide_eq_false HN.out).symm,below_drawn hbw _⟩
     ·cases e2 : (f == g)
      ·have HN : Hid (l ≠ k):=hide (HNE.out (by intro h; injection h with h1 h2; injection h2 with h2 h3; rw [h2,beq_self_eq_true] at e2; cases e2))
       go_wp2_with fail
       go_quiet (fail)
       go_wp2_with fail
       go_ret
       exact ⟨ret_bool (decide_eq_false HN.out).symm,below_drawn hbw _⟩
      ·cases e3 : (t == s)
       ·have HN : Hid (l ≠ k):=hide (HNE.out (by intro h; injection h with h1 h2; injection h2 with h2 h3; rw [h3,beq_self_eq_true] at e3; cases e3))
        go_wp2_with fail
        go_quiet (fail)
        go_wp2_with fail
        go_ret
        exact ⟨ret_bool (decide_eq_false HN.out).symm,below_drawn hbw _⟩
       ·have HN : Hid (l.take (j + 1) = k.take (j + 1)):=by
         show l.take (j + 1) = k.take (j + 1)
         rw [HTL.out,HTK.out,HE.out,show a = b by simpa using e1,show f = g by simpa using e2,show t = s by simpa using e3]
        go_wp2_with fail
        go_quiet (fail)
        go_wp2_with fail
        go_roundw
        case rel => exact ⟨j + 1,by omega,by go_num,HN.out,below_drawn hbw _⟩
        case measure => simp [intOf]; omega
    ·obtain rfl : j = l.length:=by omega
     have HF : Hid (l = k):=sameC_all HL.out HE.out
     go_wp2_with fail
     go_ret
     exact ⟨ret_bool (decide_eq_true HF.out).symm,hbw⟩
 ·have HF : Hid (l ≠ k):=fun h => hlen (by rw [h])
  have e0 : (l.length == k.length) = false:=by rw [beq_eq_false_iff_ne]; exact hlen
  have e1 : ((l.length : Int) == (k.length : Int)) = false:=by rw [beq_eq_false_iff_ne]; omega
  have e2 : ((l.length : Int) != (k.length : Int)) = true:=by rw [bne_iff_ne]; omega
  clear hl hk
  go_enter Tryz.func45,Tryz.ntmps45
  go_wp2_with fail
  go_ret
  exact ⟨ret_bool (decide_eq_false HF.out).symm,start _⟩
theorem R.equalC_any (A B : Option Addr) (n m c d : Nat) (l k : List C) (w : World) (hl : RowC w A l) (hk : RowC w B k) (hn : n = l.length) (hm : m = k.length) (hsz : l.length <= 1000000) (hsk : k.length <= 1000000) :
  Calls Tryz.prog 11 #[.slice A n c,.slice B m d] w fun e w' => e = .returned (.bool (decide (l = k))) /\ Below w.heap.size w w':=by
 subst hn hm
 by_cases hlen : l.length = k.length
 ·by_cases hnil : l = []
  ·subst hnil
   have hkn : k = []:=List.eq_nil_of_length_eq_zero hlen.symm
   subst hkn
   go_enter Tryz.func11,Tryz.ntmps11
   go_wp2_with fail
   refine wp_loop_rounds 1 ?_
   rw [rounds_succ]
   go_wp2_with fail
   go_ret
   exact ⟨rfl,start _⟩
  ·obtain ⟨b1,o1,rfl,hb1,hc1⟩:=hl hnil
   obtain ⟨b2,o2,rfl,hb2,hc2⟩:=hk (by rintro rfl; exact hnil (List.eq_nil_of_length_eq_zero hlen))
   have HC1:=hide hc1
   have HC2:=hide hc2
   have HL:=hide hlen
   rw [<- hlen]
   clear hl hk hc1 hc2 hlen hnil
   go_enter Tryz.func11,Tryz.ntmps11
   go_wp2_with fail
   go_loopw [5] (fun i wr => ∃ j : Nat,j <= l.length /\ i = .int .i64 j /\ l.take j = k.take j /\ Below w.heap.size w wr) (fun i _ => l.length - (intOf i).toNat)
   case atStart => exact ⟨0,Nat.zero_le _,rfl,rfl,start _⟩
   case round =>
    obtain ⟨j,hj,rfl,heq,hbw⟩:=hrel
    have HE:=hide heq
    clear heq
    by_cases hlt : j < l.length
    ·have hlk : j < k.length:=by have:=HL.out; omega
     obtain ⟨x1,x2,x3⟩:=HC1.out j hlt
     obtain ⟨y1,y2,y3⟩:=HC2.out j hlk
     have HTL:=hide (show l.take (j + 1) = l.take j ++ [l[j]] from List.take_succ_eq_append_getElem hlt)
     have HTK:=hide (show k.take (j + 1) = k.take j ++ [k[j]] from List.take_succ_eq_append_getElem hlk)
     have HNE:=hide (fun (h : l[j] ≠ k[j]) => takeC_ne hlt hlk h)
     obtain ⟨u,hu⟩ : ∃ u,l[j] = u:=⟨_,rfl⟩
     obtain ⟨v,hv⟩ : ∃ v,k[j] = v:=⟨_,rfl⟩
     rw [hu] at x1 x2 x3 HTL HNE
     rw [hv] at y1 y2 y3 HTK HNE
     obtain ⟨a,f,t⟩:=u
     obtain ⟨b,g,s⟩:=v
     have p1 : wr.cell? ⟨b1,o1 + j * 3,none⟩ = some (.int .i64 a):=(hbw.cell (p:=⟨b1,_,none⟩) hb1).trans x1
     have p2 : wr.cell? ⟨b1,o1 + j * 3 + 1,none⟩ = some (.int .i64 f):=(hbw.cell (p:=⟨b1,_,none⟩) hb1).trans x2
     have p3 : wr.cell? ⟨b1,o1 + j * 3 + 2,none⟩ = some (.int .i64 t):=(hbw.cell (p:=⟨b1,_,none⟩) hb1).trans x3
     have p4 : wr.cell? ⟨b2,o2 + j * 3,none⟩ = some (.int .i64 b):=(hbw.cell (p:=⟨b2,_,none⟩) hb2).trans y1
     have p5 : wr.cell? ⟨b2,o2 + j * 3 + 1,none⟩ = some (.int .i64 g):=(hbw.cell (p:=⟨b2,_,none⟩) hb2).trans y2
     have p6 : wr.cell? ⟨b2,o2 + j * 3 + 2,none⟩ = some (.int .i64 s):=(hbw.cell (p:=⟨b2,_,none⟩) hb2).trans y3
     have hi0 : (0 : Int) <= (j : Int):=by omega
     have hi1 : (j : Int) < (l.length : Int):=by omega
     clear x1 x2 x3 y1 y2 y3 hu hv
     cases e1 : (a == b)
     ·have HN : Hid (l ≠ k):=hide (HNE.out (by intro h; injection h with h1 h2; rw [h1,beq_self_eq_true] at e1; cases e1))
      go_wp2_with fail
      go_quiet (fail)
      go_wp2_with fail
      go_ret
      exact ⟨ret_bool (decide_eq_false HN.out).symm,below_drawn hbw _⟩
     ·cases e2 : (f == g)
      ·have HN : Hid (l ≠ k):=hide (HNE.out (by intro h; injection h with h1 h2; injection h2 with h2 h3; rw [h2,beq_self_eq_true] at e2; cases e2))
       go_wp2_with fail
       go_quiet (fail)
       go_wp2_with fail
       go_ret
       exact ⟨ret_bool (decide_eq_false HN.out).symm,below_drawn hbw _⟩
      ·cases e3 : (t == s)
       ·have HN : Hid (l ≠ k):=hide (HNE.out (by intro h; injection h with h1 h2; injection h2 with h2 h3; rw [h3,beq_self_eq_true] at e3; cases e3))
        go_wp2_with fail
        go_quiet (fail)
        go_wp2_with fail
        go_ret
        exact ⟨ret_bool (decide_eq_false HN.out).symm,below_drawn hbw _⟩
       ·have HN : Hid (l.take (j + 1) = k.take (j + 1)):=by
         show l.take (j + 1) = k.take (j + 1)
         rw [HTL.out,HTK.out,HE.out,show a = b by simpa using e1,show f = g by simpa using e2,show t = s by simpa using e3]
        go_wp2_with fail
        go_quiet (fail)
        go_wp2_with fail
        go_roundw
        case rel => exact ⟨j + 1,by omega,by go_num,HN.out,below_drawn hbw _⟩
        case measure => simp [intOf]; omega
    ·obtain rfl : j = l.length:=by omega
     have HF : Hid (l = k):=sameC_all HL.out HE.out
     go_wp2_with fail
     go_ret
     exact ⟨ret_bool (decide_eq_true HF.out).symm,hbw⟩
 ·have HF : Hid (l ≠ k):=fun h => hlen (by rw [h])
  have e0 : (l.length == k.length) = false:=by rw [beq_eq_false_iff_ne]; exact hlen
  have e1 : ((l.length : Int) == (k.length : Int)) = false:=by rw [beq_eq_false_iff_ne]; omega
  have e2 : ((l.length : Int) != (k.length : Int)) = true:=by rw [bne_iff_ne]; omega
  clear hl hk
  go_enter Tryz.func11,Tryz.ntmps11
  go_wp2_with fail
  go_ret
  exact ⟨ret_bool (decide_eq_false HF.out).symm,start _⟩
end Go.Proofs.YtgihekokbgggcaaGreat.S2
namespace Go.Proofs.YtgihekokbgggcaaGreat.S2
open Go.RowKit Spn Cl
theorem outK_le (f : Nat -> List Sp) (N : Nat) (h : ∀ r,r < 8 -> (f r).length <= N) : ∀ k,k <= 8 -> (outK f k).length <= k * N
 | 0,_ => by simp [outK]
 | k + 1,hk => by
  have:=outK_le f N h k (by omega)
  have h2:=h k (by omega)
  rw [outK_succ,List.length_append,tag_len,Nat.succ_mul]; omega
theorem outC_le (f : Nat -> List Sp) (N : Nat) (h : ∀ r,r < 8 -> (f r).length <= N) : (outC f).length <= 8 * N:=by
 rw [<- outK_8]; exact outK_le f N h 8 (Nat.le_refl _)
theorem neatF_len (l : List C) (r : Nat) : (neatF l r).length <= l.length:=Nat.le_trans (canon_lenC _) (spans_len l r)
theorem neatC_len (l : List C) : (neatC l).length <= 8 * l.length:=outC_le _ _ fun r _ => neatF_len l r
theorem com_len (a b : List Sp) : (com a b).length <= a.length + b.length:=by
 refine com_ind (P:=fun a b => (com a b).length <= a.length + b.length) ?_ ?_ ?_ ?_ _ a b (Nat.le_refl _)
 ·intro b; simp [com]
 ·intro a; rw [com_nil]; simp
 ·intro x a y b c ih
  rw [com_cons,if_pos c,List.length_append]
  have : (if Ok (meet x y) then [meet x y] else []).length <= 1:=by split <;> simp
  simp only [List.length_cons] at *; omega
 ·intro x a y b c ih
  rw [com_cons,if_neg c,List.length_append]
  have : (if Ok (meet x y) then [meet x y] else []).length <= 1:=by split <;> simp
  simp only [List.length_cons] at *; omega
theorem gapF_len (l : List C) (r : Nat) : (gapF (neatF l) r).length <= l.length + 1:=by
 unfold gapF gapL; rw [Cl.gaps_len]; have:=neatF_len l r; omega
theorem meetF_len (a b : List C) (r : Nat) : (comF (neatF a) (neatF b) r).length <= a.length + b.length:=by
 have:=com_len (neatF a r) (neatF b r)
 have h1:=neatF_len a r
 have h2:=neatF_len b r
 unfold comF; omega
theorem minusF_len (a b : List C) (r : Nat) : (comF (neatF a) (gapF (neatF b)) r).length <= a.length + b.length + 1:=by
 have:=com_len (neatF a r) (gapF (neatF b) r)
 have h1:=neatF_len a r
 have h2:=gapF_len b r
 unfold comF; omega
theorem meetC_len (a b : List C) : (meetC a b).length <= 8 * (a.length + b.length):=outC_le _ _ fun r _ => meetF_len a b r
theorem minusC_len (a b : List C) : (minusC a b).length <= 8 * (a.length + b.length + 1):=outC_le _ _ fun r _ => minusF_len a b r
theorem Neat_any (A : Option Addr) (n c : Nat) (l : List C) (w : World) (h : RowC w A l) (he : n = l.length) (hn : l.length <= 40000) :
  Calls Tryz.prog 17 #[.slice A n c] w (GivesC w (neatC l)):=by
 have HR:=hide h
 have HE:=hide he
 have HB1:=hide (outC_le (neatF l) l.length fun r _ => neatF_len l r)
 clear h he
 go_enter Tryz.func17,Tryz.ntmps17
 go_wp2_with fail
 refine (neat_any A n c l _ HR.out HE.out (by omega)).mono ?_
 rintro e w1 ⟨vs,rfl,ho,hb1⟩
 have HF:=hide (famR_of ho)
 have HB:=hide hb1
 clear ho hb1
 go_wp2_with fail
 refine (claims_any vs (neatF l) w1 HF.out (by have:=HB1.out; omega)).mono ?_
 rintro e w2 ⟨v,rfl,ho2,hb2⟩
 have HO:=hide (ho2.low HB.out.size)
 have HB2:=hide (andthen HB.out hb2)
 clear ho2 hb2
 go_wp2_with fail
 go_ret
 exact ⟨v,rfl,HO.out,HB2.out⟩
theorem Long_any (A : Option Addr) (n c : Nat) (l : List C) (w : World) (h : RowC w A l) (he : n = l.length) (hn : l.length <= 40000) :
  Calls Tryz.prog 23 #[.slice A n c] w fun e w' => e = .returned (.int .i64 (longC l)) /\ Below w.heap.size w w':=by
 have HR:=hide h
 have HE:=hide he
 clear h he
 go_enter Tryz.func23,Tryz.ntmps23
 go_wp2_with fail
 refine (neat_any A n c l _ HR.out HE.out (by omega)).mono ?_
 rintro e w1 ⟨vs,rfl,ho,hb1⟩
 have HF:=hide (famR_of ho)
 have HB:=hide hb1
 clear ho hb1
 go_wp2_with fail
 refine (rlong_any vs (neatF l) w1 HF.out (fun r _ => by have:=neatF_len l r; omega)).mono ?_
 rintro e w2 ⟨rfl,hb2⟩
 have HB2:=hide (andthen HB.out hb2)
 clear hb2
 go_wp2_with fail
 go_ret
 exact ⟨rfl,HB2.out⟩
theorem Meet_any (A B : Option Addr) (n m c d : Nat) (a b : List C) (w : World) (h : RowC w A a) (k : RowC w B b) (he : n = a.length) (hf : m = b.length) (hn : a.length <= 40000) (hm : b.length <= 40000) :
  Calls Tryz.prog 18 #[.slice A n c,.slice B m d] w (GivesC w (meetC a b)):=by
 have HR:=hide h
 have HK:=hide k
 have HE:=hide he
 have HF:=hide hf
 have HB1:=hide (meetC_len a b)
 clear h k he hf
 go_enter Tryz.func18,Tryz.ntmps18
 go_wp2_with fail
 refine (neat_any A n c a _ HR.out HE.out (by omega)).mono ?_
 rintro e w1 ⟨vs,rfl,ho,hb1⟩
 have HV:=hide (famR_of ho)
 have HB:=hide hb1
 clear ho hb1
 go_wp2_with fail
 refine (neat_any B m d b _ (HK.out.keep HB.out) HF.out (by omega)).mono ?_
 rintro e w2 ⟨ws,rfl,ho,hb2⟩
 have HW:=hide (famR_of ho)
 replace HV:=hide (HV.out.keep hb2)
 replace HB:=hide (andthen HB.out hb2)
 clear ho hb2
 go_wp2_with fail
 refine (inBoth_any vs ws (neatF a) (neatF b) w2 HV.out HW.out (fun r _ => by have:=neatF_len a r; omega) (fun r _ => by have:=neatF_len b r; omega)).mono ?_
 rintro e w3 ⟨us,rfl,ho,hb3⟩
 have HU:=hide (famR_of ho)
 replace HB:=hide (andthen HB.out hb3)
 clear ho hb3
 go_wp2_with fail
 refine (claims_any us (comF (neatF a) (neatF b)) w3 HU.out (by have : (outC (comF (neatF a) (neatF b))).length <= _:=HB1.out; omega)).mono ?_
 rintro e w4 ⟨v,rfl,ho2,hb4⟩
 have HO:=hide (ho2.low HB.out.size)
 have HB2:=hide (andthen HB.out hb4)
 clear ho2 hb4
 go_wp2_with fail
 go_ret
 exact ⟨v,rfl,HO.out,HB2.out⟩
theorem Minus_any (A B : Option Addr) (n m c d : Nat) (a b : List C) (w : World) (h : RowC w A a) (k : RowC w B b) (he : n = a.length) (hf : m = b.length) (hn : a.length <= 40000) (hm : b.length <= 40000) :
  Calls Tryz.prog 20 #[.slice A n c,.slice B m d] w (GivesC w (minusC a b)):=by
 have HR:=hide h
 have HK:=hide k
 have HE:=hide he
 have HF:=hide hf
 have HB1:=hide (minusC_len a b)
 clear h k he hf
 go_enter Tryz.func20,Tryz.ntmps20
 go_wp2_with fail
 refine (neat_any A n c a _ HR.out HE.out (by omega)).mono ?_
 rintro e w1 ⟨vs,rfl,ho,hb1⟩
 have HV:=hide (famR_of ho)
 have HB:=hide hb1
 clear ho hb1
 go_wp2_with fail
 refine (neat_any B m d b _ (HK.out.keep HB.out) HF.out (by omega)).mono ?_
 rintro e w2 ⟨ws,rfl,ho,hb2⟩
 have HW:=hide (famR_of ho)
 replace HV:=hide (HV.out.keep hb2)
 replace HB:=hide (andthen HB.out hb2)
 clear ho hb2
 go_wp2_with fail
 refine (notIn_any ws (neatF b) w2 HW.out (fun r _ => by have:=neatF_len b r; omega)).mono ?_
 rintro e w5 ⟨gs,rfl,ho,hb5⟩
 have HG:=hide (famR_of ho)
 replace HV:=hide (HV.out.keep hb5)
 replace HB:=hide (andthen HB.out hb5)
 clear ho hb5
 go_wp2_with fail
 refine (inBoth_any vs gs (neatF a) (gapF (neatF b)) w5 HV.out HG.out (fun r _ => by have:=neatF_len a r; omega) (fun r _ => by have:=gapF_len b r; omega)).mono ?_
 rintro e w3 ⟨us,rfl,ho,hb3⟩
 have HU:=hide (famR_of ho)
 replace HB:=hide (andthen HB.out hb3)
 clear ho hb3
 go_wp2_with fail
 refine (claims_any us (comF (neatF a) (gapF (neatF b))) w3 HU.out (by have : (outC (comF (neatF a) (gapF (neatF b)))).length <= _:=HB1.out; omega)).mono ?_
 rintro e w4 ⟨v,rfl,ho2,hb4⟩
 have HO:=hide (ho2.low HB.out.size)
 have HB2:=hide (andthen HB.out hb4)
 clear ho2 hb4
 go_wp2_with fail
 go_ret
 exact ⟨v,rfl,HO.out,HB2.out⟩
theorem Same_any (A B : Option Addr) (n m c d : Nat) (a b : List C) (w : World) (h : RowC w A a) (k : RowC w B b) (he : n = a.length) (hf : m = b.length) (hn : a.length <= 40000) (hm : b.length <= 40000) :
  Calls Tryz.prog 22 #[.slice A n c,.slice B m d] w fun e w' => e = .returned (.bool (decide (neatC a = neatC b))) /\ Below w.heap.size w w':=by
 have HR:=hide h
 have HK:=hide k
 have HE:=hide he
 have HF:=hide hf
 have HB1:=hide (neatC_len a)
 have HB3:=hide (neatC_len b)
 clear h k he hf
 go_enter Tryz.func22,Tryz.ntmps22
 go_wp2_with fail
 refine (Neat_any A n c a _ HR.out HE.out hn).mono ?_
 rintro e w1 ⟨v,rfl,ho,hb1⟩
 obtain ⟨A1,c1,rfl,hr1⟩:=ho.row
 have HV:=hide hr1
 have HB:=hide hb1
 clear ho hb1 hr1
 go_wp2_with fail
 refine (Neat_any B m d b _ (HK.out.keep HB.out) HF.out hm).mono ?_
 rintro e w2 ⟨v2,rfl,ho,hb2⟩
 obtain ⟨A2,c2,rfl,hr2⟩:=ho.row
 have HW:=hide hr2
 replace HV:=hide (HV.out.keep hb2)
 replace HB:=hide (andthen HB.out hb2)
 clear ho hb2 hr2
 go_wp2_with fail
 refine (equalC_any A1 A2 _ _ c1 c2 (neatC a) (neatC b) w2 HV.out HW.out rfl rfl (by have:=HB1.out; omega) (by have:=HB3.out; omega)).mono ?_
 rintro e w3 ⟨rfl,hb3⟩
 replace HB:=hide (andthen HB.out hb3)
 clear hb3
 generalize hq : decide (neatC a = neatC b) = q at *
 go_wp2_with fail
 go_ret
 exact ⟨ret_bool hq.symm,HB.out⟩
end Go.Proofs.YtgihekokbgggcaaGreat.S2

/- Package claim: gaps, inBoth, notIn. Written by recipes/cl2.py. -/
import Derived.Test.YtgihekokbgggcaaGreatZClE
import Derived.Test.YtgihekokbgggcaaGreatZClF
import Derived.Test.YtgihekokbgggcaaGreatZClG
import Derived.Test.YtgihekokbgggcaaGreatZBExC
set_option maxHeartbeats 8000000
set_option maxRecDepth 1000000
namespace Go.Proofs.YtgihekokbgggcaaGreat.S2
open Go.RowKit Spn Cl
theorem gaps_any (A : Option Addr) (n c : Nat) (l : List Sp) (w : World) (h : Row w A l) (he : n = l.length) (hn : l.length <= 400000) :
  Calls Tryz.prog 62 #[.slice A n c] w (Gives w (gapL l)):=by
 subst he
 have HR:=hide h
 clear h
 go_enter Tryz.func62,Tryz.ntmps62
 go_wp2_with (refine wp_makeS rfl _ _ rfl rfl (n:=l.length + 1) rfl (by omega) (by omega) ?_; intro v0 w0 hown0 hb0)
 have HO0:=hide hown0
 have HB0:=hide hb0
 clear hown0 hb0
 go_wp2_with fail
 go_loopw [3,4,13] (fun v f i wr => ∃ k : Nat,k <= l.length /\ i = .int .i64 k /\ f = .int .i64 (endOf 0 (l.take k)) /\ Hid (Own wr w.heap.size v ((Cl.gaps 0 l).take k)) /\ Hid (Below w.heap.size w wr)) (fun _ _ i _ => l.length - (intOf i).toNat)
 case atStart => exact ⟨0,by omega,rfl,rfl,hide HO0.out,hide HB0.out⟩
 case round =>
  obtain ⟨k,hk,rfl,rfl,HO,HB⟩:=hrel
  have hgl:=Cl.gaps_len l 0
  by_cases hlt : k < l.length
  ·obtain ⟨b,off,rfl,hb,hcl⟩:=HR.out (by intro h0; rw [h0] at hlt; exact absurd hlt (Nat.not_lt_zero _))
   obtain ⟨m,hm⟩ : ∃ m,l[k] = m:=⟨_,rfl⟩
   obtain ⟨x,y⟩:=m
   have p1 : wr.cell? ⟨b,off + k * 2,none⟩ = some (.int .i64 x):=by have:=(hcl k hlt).1; rw [hm] at this; exact (HB.out.cell (p:=⟨b,_,none⟩) hb).trans this
   have p2 : wr.cell? ⟨b,off + k * 2 + 1,none⟩ = some (.int .i64 y):=by have:=(hcl k hlt).2; rw [hm] at this; exact (HB.out.cell (p:=⟨b,_,none⟩) hb).trans this
   have hj0 : (0 : Int) <= (k : Int):=by omega
   have hj1 : (k : Int) < (l.length : Int):=by omega
   have HTK:=hide (Cl.gaps_take l 0 k hlt)
   have HEK:=hide (endOf_take l 0 k hlt)
   rw [hm] at HTK HEK
   have hln : ((Cl.gaps 0 l).take k).length <= 1000000:=by have:=List.length_take_le k (Cl.gaps 0 l); omega
   have hbb:=more (start wr) (.cells #[.int .i64 x,.int .i64 y] 23)
   have hown:=Own.keep HO.out hbb
   have hbz:=HB.out.trans (hbb.mono HB.out.size)
   have hbs:=hbz.size
   obtain ⟨z,hz⟩ : ∃ z,endOf 0 (l.take k) = z:=⟨_,rfl⟩
   rw [hz] at HTK
   rw [hz]
   generalize (Cl.gaps 0 l).take k = S at *
   have k0 : (wr.alloc (.cells #[.int .i64 x,.int .i64 y] 23)).cell? ⟨wr.heap.size,1,none⟩ = some (.int .i64 y):=by rw [World.cell?_alloc_at _ _ _ _ rfl]; rfl
   have k1 : (wr.alloc (.cells #[.int .i64 x,.int .i64 y] 23)).cell? ⟨wr.heap.size,0,none⟩ = some (.int .i64 x):=by rw [World.cell?_alloc_at _ _ _ _ rfl]; rfl
   clear hcl hm hz
   go_wp2_with (at_builtin; refine wp_oneG (l:=S) (p:=(z,x)) rfl _ _ rfl rfl (World.size_alloc _ _) rfl hown hbs hln ?_; intro v3 w3 hown3 hgo3; have k2 : w3.cell? ⟨wr.heap.size,1,none⟩ = some (.int .i64 y):=hgo3.grown.cell k0 (apartN HO.out (Nat.le_refl _)))
   have HO3:=hide hown3
   have HB3:=hide (hgo3.below' hown hbz hbs)
   clear hown hown3 hgo3 hbz hbs hln k0 k1
   go_wp2_with fail
   go_roundw
   case rel => exact ⟨k + 1,by omega,by go_num,by rw [HEK.out],by rw [HTK.out]; exact hide HO3.out,hide HB3.out⟩
   case measure => simp [intOf]; omega
  ·obtain rfl : k = l.length:=by omega
   have HLT:=hide (Cl.gaps_last l 0)
   have hln : ((Cl.gaps 0 l).take l.length).length <= 1000000:=by have:=List.length_take_le l.length (Cl.gaps 0 l); omega
   have hown:=HO.out
   have hbs:=HB.out.size
   rw [List.take_length] at *
   generalize endOf 0 l = z at *
   generalize (Cl.gaps 0 l).take l.length = S at *
   go_wp2_with (at_builtin; refine wp_oneG (l:=S) (p:=(z,52596000)) rfl _ _ rfl rfl rfl rfl hown hbs hln ?_; intro v3 w3 hown3 hgo3)
   have HO3:=hide hown3
   have HB3:=hide (hgo3.below' hown HB.out hbs)
   clear hown hown3 hgo3 hbs hln
   go_wp2_with fail
   go_ret
   exact ⟨_,rfl,by unfold gapL; rw [HLT.out]; exact HO3.out,HB3.out⟩
theorem box8 (w : World) (y : TypeId) (vs : Nat -> Value) (r : Nat) (h : r < 8) : (w.alloc (.cells #[vs 0,vs 1,vs 2,vs 3,vs 4,vs 5,vs 6,vs 7] y)).cell? ⟨w.heap.size,r,none⟩ = some (vs r):=by
 rw [World.cell?_alloc_at _ _ _ _ rfl]
 rcases (by omega : r = 0 ∨ r = 1 ∨ r = 2 ∨ r = 3 ∨ r = 4 ∨ r = 5 ∨ r = 6 ∨ r = 7) with rfl | rfl | rfl | rfl | rfl | rfl | rfl | rfl <;> rfl
theorem keepC2 {W W1 : World} (hb : Below W.heap.size W W1) {a0 a1 : Addr} {v0 v1 : Value} (h : W.cell? a0 = some v0 /\ W.cell? a1 = some v1) : W1.cell? a0 = some v0 /\ W1.cell? a1 = some v1 :=
 ⟨cell_keep hb h.1,cell_keep hb h.2⟩
theorem setC2 {W : World} {X b0 b1 r i0 i1 : Nat} (v : Value) (h0 : X ≠ b0) (h1 : X ≠ b1) {v0 v1 : Value} (h : W.cell? ⟨b0,i0,none⟩ = some v0 /\ W.cell? ⟨b1,i1,none⟩ = some v1) : (W.setCell ⟨X,r,none⟩ v).cell? ⟨b0,i0,none⟩ = some v0 /\ (W.setCell ⟨X,r,none⟩ v).cell? ⟨b1,i1,none⟩ = some v1:=by
 refine ⟨?_,?_⟩
 ·rw [World.cell?_setCell_other _ _ _ _ (by intro hc; injection hc with hc; exact h0 hc)]; exact h.1
 ·rw [World.cell?_setCell_other _ _ _ _ (by intro hc; injection hc with hc; exact h1 hc)]; exact h.2
def upto (g : Nat -> List Sp) (k q : Nat) : List Sp:=if q < k then g q else []
theorem upto_0 (g : Nat -> List Sp) (q : Nat) : upto g 0 q = []:=if_neg (Nat.not_lt_zero _)
theorem upto_8 (g : Nat -> List Sp) (q : Nat) (h : q < 8) : upto g 8 q = g q:=if_pos h
theorem upto_upd (g : Nat -> List Sp) (k q : Nat) : upd (upto g k) k (g k) q = upto g (k + 1) q:=by
 by_cases e : q = k
 ·subst e; rw [upd_same]; exact (if_pos (Nat.lt_succ_self _)).symm
 ·rw [upd_other _ _ _ _ e]; unfold upto
  by_cases e2 : q < k
  ·rw [if_pos e2,if_pos (Nat.lt_succ_of_lt e2)]
  ·rw [if_neg e2,if_neg (by omega)]
theorem notIn_any (vs : Nat -> Value) (f : Nat -> List Sp) (w : World) (h : FamR w vs f) (hn : ∀ r,r < 8 -> (f r).length <= 400000) :
  Calls Tryz.prog 43 #[famV vs] w (GivesF w (gapF f)):=by
 have HFR:=hide h
 have HBX:=hide (more (more (more (start w) (.cells #[vs 0,vs 1,vs 2,vs 3,vs 4,vs 5,vs 6,vs 7] 66)) (.cells #[.slice none 0 0,.slice none 0 0,.slice none 0 0,.slice none 0 0,.slice none 0 0,.slice none 0 0,.slice none 0 0,.slice none 0 0] 66)) (.cells #[.slice none 0 0,.slice none 0 0,.slice none 0 0,.slice none 0 0,.slice none 0 0,.slice none 0 0,.slice none 0 0,.slice none 0 0] 66))
 have HF0:=fam_new ((w.alloc (.cells #[vs 0,vs 1,vs 2,vs 3,vs 4,vs 5,vs 6,vs 7] 66)).alloc (.cells #[.slice none 0 0,.slice none 0 0,.slice none 0 0,.slice none 0 0,.slice none 0 0,.slice none 0 0,.slice none 0 0,.slice none 0 0] 66)) 66
 have hR0 : ∀ r,r < 8 -> (((w.alloc (.cells #[vs 0,vs 1,vs 2,vs 3,vs 4,vs 5,vs 6,vs 7] 66)).alloc (.cells #[.slice none 0 0,.slice none 0 0,.slice none 0 0,.slice none 0 0,.slice none 0 0,.slice none 0 0,.slice none 0 0,.slice none 0 0] 66)).alloc (.cells #[.slice none 0 0,.slice none 0 0,.slice none 0 0,.slice none 0 0,.slice none 0 0,.slice none 0 0,.slice none 0 0,.slice none 0 0] 66)).cell? ⟨w.heap.size + 1,r,none⟩ = some (.slice none 0 0):=fun r h => by
  have:=cell_keep (more (start ((w.alloc (.cells #[vs 0,vs 1,vs 2,vs 3,vs 4,vs 5,vs 6,vs 7] 66)).alloc (.cells #[.slice none 0 0,.slice none 0 0,.slice none 0 0,.slice none 0 0,.slice none 0 0,.slice none 0 0,.slice none 0 0,.slice none 0 0] 66))) (.cells #[.slice none 0 0,.slice none 0 0,.slice none 0 0,.slice none 0 0,.slice none 0 0,.slice none 0 0,.slice none 0 0,.slice none 0 0] 66)) (zero8 (w.alloc (.cells #[vs 0,vs 1,vs 2,vs 3,vs 4,vs 5,vs 6,vs 7] 66)) 66 r h)
  rwa [World.size_alloc] at this
 have hR1 : ∀ r,(((w.alloc (.cells #[vs 0,vs 1,vs 2,vs 3,vs 4,vs 5,vs 6,vs 7] 66)).alloc (.cells #[.slice none 0 0,.slice none 0 0,.slice none 0 0,.slice none 0 0,.slice none 0 0,.slice none 0 0,.slice none 0 0,.slice none 0 0] 66)).alloc (.cells #[.slice none 0 0,.slice none 0 0,.slice none 0 0,.slice none 0 0,.slice none 0 0,.slice none 0 0,.slice none 0 0,.slice none 0 0] 66)).frozen? ⟨w.heap.size + 1,r,none⟩ = false:=fun r => by
  have:=zeroF (w.alloc (.cells #[vs 0,vs 1,vs 2,vs 3,vs 4,vs 5,vs 6,vs 7] 66)) 66 r
  rw [World.size_alloc] at this
  exact ((more (start ((w.alloc (.cells #[vs 0,vs 1,vs 2,vs 3,vs 4,vs 5,vs 6,vs 7] 66)).alloc (.cells #[.slice none 0 0,.slice none 0 0,.slice none 0 0,.slice none 0 0,.slice none 0 0,.slice none 0 0,.slice none 0 0,.slice none 0 0] 66))) (.cells #[.slice none 0 0,.slice none 0 0,.slice none 0 0,.slice none 0 0,.slice none 0 0,.slice none 0 0,.slice none 0 0,.slice none 0 0] 66)).frozen (p:=⟨w.heap.size + 1,r,none⟩) (by simp)).trans this
 rw [World.size_alloc,World.size_alloc] at HF0
 clear h
 unfold famV
 go_enter Tryz.func43,Tryz.ntmps43
 go_wp2_with fail
 generalize (((w.alloc (.cells #[vs 0,vs 1,vs 2,vs 3,vs 4,vs 5,vs 6,vs 7] 66)).alloc (.cells #[.slice none 0 0,.slice none 0 0,.slice none 0 0,.slice none 0 0,.slice none 0 0,.slice none 0 0,.slice none 0 0,.slice none 0 0] 66)).alloc (.cells #[.slice none 0 0,.slice none 0 0,.slice none 0 0,.slice none 0 0,.slice none 0 0,.slice none 0 0,.slice none 0 0,.slice none 0 0] 66)) = W at *
 have HF:=hide HF0
 have HR0:=hide hR0
 have HR1:=hide hR1
 clear HF0 hR0 hR1
 go_loopw [7] (fun i wr => ∃ (k : Nat) (us : Nat -> Value),k <= 8 /\ i = .int .i64 k /\ Hid (Fam wr (w.heap.size + 1 + 1) (w.heap.size + 1 + 1 + 1) us (upto (gapF f) k)) /\ Hid (∀ r,r < 8 -> wr.cell? ⟨w.heap.size + 1,r,none⟩ = some (.slice none 0 0)) /\ Hid (∀ r,wr.frozen? ⟨w.heap.size + 1,r,none⟩ = false) /\ Hid (Below w.heap.size w wr)) (fun i _ => 8 - (intOf i).toNat)
 case atStart => exact ⟨0,fun _ => .slice none 0 0,by omega,rfl,hide (HF.out.congr fun r _ => (upto_0 _ r).symm),hide HR0.out,hide HR1.out,hide HBX.out⟩
 case round =>
  obtain ⟨k,us,hk8,rfl,HFQ,HQ0,HQ1,HBQ⟩:=hrel
  by_cases hlt8 : k < 8
  ·have hk0 : (0 : Int) <= (k : Int):=by omega
   have hk9 : (k : Int) < 8:=by omega
   have HIX:=idxF vs k hlt8 wr
   obtain ⟨Ak,ck,hvk,hrk,_⟩:=HFR.out k hlt8
   rw [hvk] at HIX
   have HRK:=hide (hrk.keep HBQ.out)
   have HLK:=hide (hn k hlt8)
   clear hrk
   go_wp2_with fail
   refine (gaps_any Ak _ ck (f k) wr HRK.out rfl HLK.out).mono ?_
   rintro e w2 ⟨v2,rfl,hown2,hb2⟩
   obtain ⟨v4,hv4⟩ : ∃ v,v = v2:=⟨_,rfl⟩
   have HO4:=hide hown2
   have HB2:=hide hb2
   rw [<- hv4] at HO4
   obtain ⟨A2,c2,rfl,_⟩:=Own.row hown2
   have HF2:=hide (HFQ.out.keep hb2)
   have hx2:=HF2.out.cell k hlt8
   have hf2:=HF2.out.froz k
   clear hown2 hb2
   go_wp2_with fail
   go_roundw
   case rel =>
    have hlo:=HFQ.out.lt
    have hle:=HFQ.out.le
    refine ⟨k + 1,upd us k v4,by omega,by go_num,hide ?_,hide (fun r hr => ?_),hide (fun r => ?_),hide ?_⟩
    ·rw [<- hv4]
     exact (HF2.out.set hlt8 (HO4.out.low (by first | exact hle | exact Nat.le_trans hle (by simp))) fun q hq _ => freshA (HFQ.out.own q hq) HO4.out).congr fun q _ => upto_upd _ k q
    ·rw [World.cell?_setCell_other _ _ _ _ (by intro hc; injection hc with hc; omega)]
     exact cell_keep HB2.out (HQ0.out r hr)
    ·rw [World.frozen?_setCell]
     exact (HB2.out.frozen (p:=⟨w.heap.size + 1,r,none⟩) (by show w.heap.size + 1 < wr.heap.size; omega)).trans (HQ1.out r)
    ·exact Below.setCell (HBQ.out.trans (HB2.out.mono HBQ.out.size)) (show w.heap.size <= w.heap.size + 1 + 1 by omega) _
   case measure => simp [intOf]; omega
  ·obtain rfl : k = 8:=by omega
   have HFE : Hid (Fam wr (w.heap.size + 1 + 1) (w.heap.size + 1 + 1 + 1) us (gapF f)):=hide (HFQ.out.congr fun r hr => upto_8 _ r hr)
   clear HFQ HF HR0 HR1 HBX
   obtain ⟨p0,p1,p2,p3,p4,p5,p6,p7⟩ : wr.cell? ⟨w.heap.size + 1 + 1,0,none⟩ = some (us 0) /\ wr.cell? ⟨w.heap.size + 1 + 1,1,none⟩ = some (us 1) /\ wr.cell? ⟨w.heap.size + 1 + 1,2,none⟩ = some (us 2) /\ wr.cell? ⟨w.heap.size + 1 + 1,3,none⟩ = some (us 3) /\ wr.cell? ⟨w.heap.size + 1 + 1,4,none⟩ = some (us 4) /\ wr.cell? ⟨w.heap.size + 1 + 1,5,none⟩ = some (us 5) /\ wr.cell? ⟨w.heap.size + 1 + 1,6,none⟩ = some (us 6) /\ wr.cell? ⟨w.heap.size + 1 + 1,7,none⟩ = some (us 7) :=
    ⟨HFE.out.cell 0 (by omega),HFE.out.cell 1 (by omega),HFE.out.cell 2 (by omega),HFE.out.cell 3 (by omega),HFE.out.cell 4 (by omega),HFE.out.cell 5 (by omega),HFE.out.cell 6 (by omega),HFE.out.cell 7 (by omega)⟩
   obtain ⟨q0,q1,q2,q3,q4,q5,q6,q7⟩ : wr.cell? ⟨w.heap.size + 1,0,none⟩ = some (.slice none 0 0) /\ wr.cell? ⟨w.heap.size + 1,1,none⟩ = some (.slice none 0 0) /\ wr.cell? ⟨w.heap.size + 1,2,none⟩ = some (.slice none 0 0) /\ wr.cell? ⟨w.heap.size + 1,3,none⟩ = some (.slice none 0 0) /\ wr.cell? ⟨w.heap.size + 1,4,none⟩ = some (.slice none 0 0) /\ wr.cell? ⟨w.heap.size + 1,5,none⟩ = some (.slice none 0 0) /\ wr.cell? ⟨w.heap.size + 1,6,none⟩ = some (.slice none 0 0) /\ wr.cell? ⟨w.heap.size + 1,7,none⟩ = some (.slice none 0 0) :=
    ⟨HQ0.out 0 (by omega),HQ0.out 1 (by omega),HQ0.out 2 (by omega),HQ0.out 3 (by omega),HQ0.out 4 (by omega),HQ0.out 5 (by omega),HQ0.out 6 (by omega),HQ0.out 7 (by omega)⟩
   have f0:=HQ1.out 0
   have f1:=HQ1.out 1
   have f2:=HQ1.out 2
   have f3:=HQ1.out 3
   have f4:=HQ1.out 4
   have f5:=HQ1.out 5
   have f6:=HQ1.out 6
   have f7:=HQ1.out 7
   obtain ⟨A0,c0,e0,_⟩:=Own.row (HFE.out.own 0 (by omega))
   obtain ⟨A1,c1,e1,_⟩:=Own.row (HFE.out.own 1 (by omega))
   obtain ⟨A2,c2,e2,_⟩:=Own.row (HFE.out.own 2 (by omega))
   obtain ⟨A3,c3,e3,_⟩:=Own.row (HFE.out.own 3 (by omega))
   obtain ⟨A4,c4,e4,_⟩:=Own.row (HFE.out.own 4 (by omega))
   obtain ⟨A5,c5,e5,_⟩:=Own.row (HFE.out.own 5 (by omega))
   obtain ⟨A6,c6,e6,_⟩:=Own.row (HFE.out.own 6 (by omega))
   obtain ⟨A7,c7,e7,_⟩:=Own.row (HFE.out.own 7 (by omega))
   rw [e0] at p0; rw [e1] at p1; rw [e2] at p2; rw [e3] at p3; rw [e4] at p4; rw [e5] at p5; rw [e6] at p6; rw [e7] at p7
   go_wp2_with fail
   rw [<- e0,<- e1,<- e2,<- e3,<- e4,<- e5,<- e6,<- e7]
   obtain ⟨r0,r1,r2,r3,r4,r5,r6,r7⟩:=set8_cell wr (w.heap.size + 1) us (v:=fun _ => .slice none 0 0) (fun k hk => HQ0.out k hk)
   have HBE:=hide (set8_below us HBQ.out (show w.heap.size <= w.heap.size + 1 by omega))
   have HOE:=hide (fun r (hr : r < 8) => Own.low (B:=w.heap.size) (set8_own (b:=w.heap.size + 1) us (HFE.out.own r hr) (by omega)) (by omega))
   unfold set8 at r0 r1 r2 r3 r4 r5 r6 r7 HBE HOE
   clear q0 q1 q2 q3 q4 q5 q6 q7 f0 f1 f2 f3 f4 f5 f6 f7 p0 p1 p2 p3 p4 p5 p6 p7 e0 e1 e2 e3 e4 e5 e6 e7 HFE HQ0 HQ1 HBQ
   generalize ((((((((wr.setCell ⟨w.heap.size + 1,0,none⟩ (us 0)).setCell ⟨w.heap.size + 1,1,none⟩ (us 1)).setCell ⟨w.heap.size + 1,2,none⟩ (us 2)).setCell ⟨w.heap.size + 1,3,none⟩ (us 3)).setCell ⟨w.heap.size + 1,4,none⟩ (us 4)).setCell ⟨w.heap.size + 1,5,none⟩ (us 5)).setCell ⟨w.heap.size + 1,6,none⟩ (us 6)).setCell ⟨w.heap.size + 1,7,none⟩ (us 7)) = WZ at *
   (try simp only [Exit.inBlock,Exit.then])
   refine bodyPost_ret (v:=famV us) ?_ rfl ⟨us,rfl,HOE.out,HBE.out⟩
   rw [results_cell1 rfl]
   go_simp
   rfl
end Go.Proofs.YtgihekokbgggcaaGreat.S2

/- The document's claims: Room, claims, Neat, Long. -/
import Derived.Test.YtgihekokbgggcaaGreatZClE
import Derived.Test.YtgihekokbgggcaaGreatZClF
import Derived.Test.YtgihekokbgggcaaGreatZS6
set_option maxHeartbeats 8000000
set_option maxRecDepth 1000000
namespace Go.Proofs.YtgihekokbgggcaaGreat.S2
open Go.RowKit Spn Cl
theorem spans_one (l : List C) (k : Nat) (h : k < l.length) (r : Int) (c : C) (hl : l[k] = c) : spansOf (l.take (k + 1)) r = spansOf (l.take k) r ++ (if okC c && decide (c.1 = r) then [c.2] else []):=by
 rw [List.take_succ_eq_append_getElem h,hl]
 unfold spansOf
 rw [List.filter_append,List.map_append]
 congr 1
 by_cases hc : (okC c && decide (c.1 = r)) = true
 ·rw [if_pos hc]; simp [hc]
 ·rw [if_neg hc]; simp [hc]
theorem room_yes (l : List C) (k : Nat) (h : k < l.length) (r : Int) (s : Sp) (hl : l[k] = (r,s)) (hok : okC (r,s) = true) : canon (spansOf (l.take (k + 1)) r) = addR (canon (spansOf (l.take k) r)) s:=by
 rw [spans_one l k h r _ hl,hok]; simp only [Bool.true_and,decide_true,if_true]; exact canon_snoc _ _
theorem room_no (l : List C) (k : Nat) (h : k < l.length) (r : Int) (c : C) (hl : l[k] = c) (hno : c.1 ≠ r ∨ okC c = false) : canon (spansOf (l.take (k + 1)) r) = canon (spansOf (l.take k) r):=by
 rw [spans_one l k h r _ hl]
 have : (okC c && decide (c.1 = r)) = false:=by
  rcases hno with h | h
  ·rw [decide_eq_false h,Bool.and_false]
  ·rw [h,Bool.false_and]
 rw [this]; simp
theorem R.room_any (A : Option Addr) (n c : Nat) (l : List C) (r : Int) (w : World) (h : RowC w A l) (he : n = l.length) (hn : l.length <= 400000) :
  Calls Tryz.prog 34 #[.slice A n c,.int .i64 r] w (Gives w (canon (spansOf l r))):=by
 subst he
 have HR:=hide h
 clear h
 go_enter Tryz.func34,Tryz.ntmps34
 go_wp2_with fail
 go_loopw [5,6] (fun v i wr => ∃ k : Nat,k <= l.length /\ i = .int .i64 k /\ Hid (Own wr w.heap.size v (canon (spansOf (l.take k) r))) /\ Hid (Below w.heap.size w wr)) (fun _ i _ => l.length - (intOf i).toNat)
 case atStart => exact ⟨0,by omega,rfl,hide (own_nil _ _),hide (start _)⟩
 case round =>
  obtain ⟨k,hk,rfl,HO,HB⟩:=hrel
  by_cases hlt : k < l.length
  ·obtain ⟨b,off,rfl,hb,hcl⟩:=HR.out (by intro h0; rw [h0] at hlt; exact absurd hlt (Nat.not_lt_zero _))
   obtain ⟨x1,x2,x3⟩:=hcl k hlt
   obtain ⟨m,hm⟩ : ∃ m,l[k] = m:=⟨_,rfl⟩
   have HY:=hide (fun s h1 h2 => room_yes l k hlt r s h1 h2)
   have HNO:=hide (fun h => room_no l k hlt r m hm h)
   rw [hm] at x1 x2 x3 HY
   obtain ⟨q,f,t⟩:=m
   have p1 : wr.cell? ⟨b,off + k * 3,none⟩ = some (.int .i64 q):=(HB.out.cell (p:=⟨b,_,none⟩) hb).trans x1
   have p2 : wr.cell? ⟨b,off + k * 3 + 1,none⟩ = some (.int .i64 f):=(HB.out.cell (p:=⟨b,_,none⟩) hb).trans x2
   have p3 : wr.cell? ⟨b,off + k * 3 + 2,none⟩ = some (.int .i64 t):=(HB.out.cell (p:=⟨b,_,none⟩) hb).trans x3
   have hi0 : (0 : Int) <= (k : Int):=by omega
   have hi1 : (k : Int) < (l.length : Int):=by omega
   clear hcl x1 x2 x3 hm
   by_cases hq : q = r
   ·have e1 : (q == r) = true:=by rw [beq_iff_eq]; exact hq
    cases hok : okC (q,(f,t))
    ·have HN:=hide (HNO.out (Or.inr hok))
     have HOK:=hide hok
     clear hok HY HNO hq
     go_wp2_with fail
     refine (R.cIs_at q f t false _ HOK.out).mono ?_
     rintro e w1 ⟨rfl,hb1⟩
     have HO1:=hide (Own.keep HO.out hb1)
     have HB1:=hide (HB.out.trans (hb1.mono HB.out.size))
     clear hb1
     go_wp2_with fail
     go_roundw
     case rel => exact ⟨k + 1,by omega,by go_num,by rw [HN.out]; exact hide HO1.out,hide HB1.out⟩
     case measure => simp [intOf]; omega
    ·have HN:=hide (HY.out (f,t) (by rw [hq]) (by rw [<- hq]; exact hok))
     have HOK:=hide hok
     have hcl:=canon_lenC (spansOf (l.take k) r)
     have hsl:=spans_len (l.take k) r
     have htl:=List.length_take_le k l
     have HNE:=hide (canon_neat (spansOf (l.take k) r)).1
     clear hok HY HNO hq
     go_wp2_with fail
     refine (R.cIs_at q f t true _ HOK.out).mono ?_
     rintro e w1 ⟨rfl,hb1⟩
     have HO1:=hide (Own.keep HO.out hb1)
     have HB1:=hide (HB.out.trans (hb1.mono HB.out.size))
     replace p2:=cell_keep hb1 p2
     replace p3:=cell_keep hb1 p3
     clear hb1 p1
     go_wp2_with fail
     refine (R.add_any w.heap.size _ _ f t w1 HO1.out HB1.out.size HNE.out (by omega)).mono ?_
     rintro e w2 ⟨v2,rfl,ho2,hb2⟩
     have HO2:=hide ho2
     have HB2:=hide (HB1.out.trans (hb2.mono HB1.out.size))
     clear ho2 hb2
     go_wp2_with fail
     go_roundw
     case rel => exact ⟨k + 1,by omega,by go_num,by rw [HN.out]; exact hide HO2.out,hide HB2.out⟩
     case measure => simp [intOf]; omega
   ·have e1 : (q == r) = false:=by rw [beq_eq_false_iff_ne]; exact hq
    have HN:=hide (HNO.out (Or.inl hq))
    clear HY HNO hq
    go_wp2_with fail
    go_roundw
    case rel => exact ⟨k + 1,by omega,by go_num,by rw [HN.out]; exact hide HO.out,hide HB.out⟩
    case measure => simp [intOf]; omega
  ·obtain rfl : k = l.length:=by omega
   rw [List.take_length] at HO
   go_wp2_with fail
   go_ret
   exact ⟨_,rfl,HO.out,HB.out⟩
theorem R.rclaims_any (r : Int) (A : Option Addr) (n c : Nat) (l : List Sp) (w : World) (h : Row w A l) (he : n = l.length) (hn : l.length <= 1000000) :
  Calls Tryz.prog 33 #[.int .i64 r,.slice A n c] w (GivesC w (tag r l)):=by
 subst he
 have HR:=hide h
 clear h
 go_enter Tryz.func33,Tryz.ntmps33
 go_wp2_with fail
 go_loopw [5,6] (fun v i wr => ∃ k : Nat,k <= l.length /\ i = .int .i64 k /\ Hid (OwnC wr w.heap.size v (tag r (l.take k))) /\ Hid (Below w.heap.size w wr)) (fun _ i _ => l.length - (intOf i).toNat)
 case atStart => exact ⟨0,by omega,rfl,hide (ownC_nil _ _),hide (start _)⟩
 case round =>
  obtain ⟨k,hk,rfl,HO,HB⟩:=hrel
  by_cases hlt : k < l.length
  ·obtain ⟨b,off,rfl,hb,hcl⟩:=HR.out (by intro h0; rw [h0] at hlt; exact absurd hlt (Nat.not_lt_zero _))
   obtain ⟨m,hm⟩ : ∃ m,l[k] = m:=⟨_,rfl⟩
   obtain ⟨x,y⟩:=m
   have p1 : wr.cell? ⟨b,off + k * 2,none⟩ = some (.int .i64 x):=by have:=(hcl k hlt).1; rw [hm] at this; exact (HB.out.cell (p:=⟨b,_,none⟩) hb).trans this
   have p2 : wr.cell? ⟨b,off + k * 2 + 1,none⟩ = some (.int .i64 y):=by have:=(hcl k hlt).2; rw [hm] at this; exact (HB.out.cell (p:=⟨b,_,none⟩) hb).trans this
   have hj0 : (0 : Int) <= (k : Int):=by omega
   have hj1 : (k : Int) < (l.length : Int):=by omega
   have HTK:=hide (tag_take r l k hlt)
   rw [hm] at HTK
   have hln : (tag r (l.take k)).length <= 1000000:=by rw [tag_len]; have:=List.length_take_le k l; omega
   have hown:=HO.out
   have hbs:=HB.out.size
   generalize tag r (l.take k) = S at *
   clear hcl hm
   go_wp2_with (at_builtin; refine wp_oneC (l:=S) (p:=(r,(x,y))) rfl _ _ rfl rfl rfl rfl hown hbs hln ?_; intro v3 w3 hown3 hb3)
   have HO3:=hide hown3
   have HB3:=hide (HB.out.trans hb3)
   clear hown hown3 hb3 hbs hln
   go_wp2_with fail
   go_roundw
   case rel => exact ⟨k + 1,by omega,by go_num,by rw [HTK.out]; exact hide HO3.out,hide HB3.out⟩
   case measure => simp [intOf]; omega
  ·obtain rfl : k = l.length:=by omega
   rw [List.take_length] at HO
   go_wp2_with fail
   go_ret
   exact ⟨_,rfl,HO.out,HB.out⟩
theorem neatF_len' (l : List C) (r : Nat) : (neatF l r).length <= l.length:=Nat.le_trans (canon_lenC _) (spans_len l r)
theorem outK_le' (f : Nat -> List Sp) (N : Nat) (h : ∀ r,(f r).length <= N) : ∀ k,(outK f k).length <= k * N
 | 0 => by simp [outK]
 | k + 1 => by
  have:=outK_le' f N h k
  have h2:=h k
  rw [outK_succ,List.length_append,tag_len,Nat.succ_mul]; omega
theorem R.Neat_any (A : Option Addr) (n c : Nat) (l : List C) (w : World) (h : RowC w A l) (he : n = l.length) (hn : l.length <= 100000) :
  Calls Tryz.prog 12 #[.slice A n c] w (GivesC w (neatC l)):=by
 subst he
 have HR:=hide h
 clear h
 go_enter Tryz.func12,Tryz.ntmps12
 go_wp2_with fail
 go_loopw [3,4] (fun v i wr => ∃ k : Nat,k <= 8 /\ i = .int .i64 k /\ Hid (OwnC wr w.heap.size v (outK (neatF l) k)) /\ Hid (Below w.heap.size w wr)) (fun _ i _ => 8 - (intOf i).toNat)
 case atStart => exact ⟨0,by omega,rfl,hide (ownC_nil _ _),hide (start _)⟩
 case round =>
  obtain ⟨k,hk,rfl,HO,HB⟩:=hrel
  by_cases hlt : k < 8
  ·have hj0 : (0 : Int) <= (k : Int):=by omega
   have hj1 : (k : Int) < 8:=by omega
   have HTK:=hide (outK_succ (neatF l) k)
   have HLK : Hid ((outK (neatF l) k).length <= 1000000):=hide (by have:=outK_le' (neatF l) l.length (neatF_len' l) k; have : k * l.length <= 8 * l.length:=Nat.mul_le_mul_right _ hk; omega)
   have HNL:=hide (neatF_len' l k)
   go_wp2_with fail
   refine (R.room_any A _ c l (k : Int) wr (HR.out.keep HB.out) rfl (by omega)).mono ?_
   rintro e w1 ⟨v1,rfl,ho1,hb1⟩
   obtain ⟨A1,c1,rfl,hr1⟩:=Own.row ho1
   have HR1 : Hid (Row w1 A1 (neatF l k)):=hide hr1
   have HO1:=hide (OwnC.keep HO.out hb1)
   have HB1:=hide (HB.out.trans (hb1.mono HB.out.size))
   clear ho1 hb1 hr1
   go_wp2_with fail
   refine (R.rclaims_any (k : Int) A1 _ c1 (neatF l k) w1 HR1.out rfl (by have:=HNL.out; omega)).mono ?_
   rintro e w2 ⟨v2,rfl,ho2,hb2⟩
   have HT:=hide ho2
   have hown:=OwnC.keep HO1.out hb2
   have hbz:=HB1.out.trans (hb2.mono HB1.out.size)
   have hbs:=hbz.size
   have hln:=HLK.out
   have hl2 : (tag (k : Int) (neatF l k)).length <= 1000000:=by rw [tag_len]; have:=HNL.out; omega
   generalize tag (k : Int) (neatF l k) = U at *
   generalize outK (neatF l) k = S at *
   clear ho2 hb2
   go_wp2_with (at_builtin; refine wp_ownC (l:=S) (k:=U) rfl _ _ rfl rfl rfl HT.out hown hbs hln hl2 ?_; intro v3 w3 hown3 hb3)
   have HO3:=hide hown3
   have HB3:=hide (hbz.trans hb3)
   clear hown hown3 hb3 hbs hln hbz hl2
   go_wp2_with fail
   go_roundw
   case rel => exact ⟨k + 1,by omega,by go_num,by rw [HTK.out]; exact hide HO3.out,hide HB3.out⟩
   case measure => simp [intOf]; omega
  ·obtain rfl : k = 8:=by omega
   go_wp2_with fail
   go_ret
   exact ⟨_,rfl,HO.out,HB.out⟩
theorem sumC_take (l : List C) (k : Nat) (h : k < l.length) (c : C) (hl : l[k] = c) : sumC (l.take (k + 1)) = sumC (l.take k) + long c.2:=by
 rw [List.take_succ_eq_append_getElem h,hl,sumC_append]; unfold sumC; simp
theorem sumC_bd (l : List C) : 0 <= sumC l /\ sumC l <= 52596000 * (l.length : Int):=by
 have h:=sumL_bdC (l.map Prod.snd)
 have e : sumC l = sumL (l.map Prod.snd):=by unfold sumC sumL; rw [List.map_map]; rfl
 rw [e]; rw [List.length_map] at h; exact h
theorem R.cLong_any (A : Option Addr) (n c : Nat) (l : List C) (w : World) (h : RowC w A l) (he : n = l.length) (hn : l.length <= 100000) :
  Calls Tryz.prog 24 #[.slice A n c] w fun e w' => e = .returned (.int .i64 (longC l)) /\ Below w.heap.size w w':=by
 have HR:=hide h
 have HE:=hide he
 have HNL : Hid ((neatC l).length <= 1000000):=hide (by have:=outK_le' (neatF l) l.length (neatF_len' l) 8; rw [outK_8] at this; have h2 : (neatC l).length <= 8 * l.length:=this; omega)
 have HM:=hide (sumC_neat l)
 clear h he
 go_enter Tryz.func24,Tryz.ntmps24
 go_wp2_with fail
 refine (R.Neat_any A n c l _ HR.out HE.out hn).mono ?_
 rintro e w1 ⟨v1,rfl,ho1,hb1⟩
 obtain ⟨A1,c1,rfl,hr1⟩:=ho1.row
 have HR1:=hide hr1
 have HB1:=hide hb1
 clear ho1 hb1 hr1
 generalize neatC l = m at HR1 HNL HM ⊢
 go_wp2_with fail
 go_loopw [3,5] (fun v i wr => ∃ k : Nat,k <= m.length /\ i = .int .i64 k /\ v = .int .i64 (sumC (m.take k)) /\ Hid (Below w1.heap.size w1 wr)) (fun _ i _ => m.length - (intOf i).toNat)
 case atStart => exact ⟨0,by omega,rfl,rfl,hide (start _)⟩
 case round =>
  obtain ⟨k,hk,rfl,rfl,HB⟩:=hrel
  by_cases hlt : k < m.length
  ·obtain ⟨b,off,rfl,hb,hcl⟩:=HR1.out (by intro h0; rw [h0] at hlt; exact absurd hlt (Nat.not_lt_zero _))
   obtain ⟨x1,x2,x3⟩:=hcl k hlt
   obtain ⟨u,hu⟩ : ∃ u,m[k] = u:=⟨_,rfl⟩
   have HTK:=hide (sumC_take m k hlt u hu)
   rw [hu] at x1 x2 x3
   obtain ⟨q,f,t⟩:=u
   have p2 : wr.cell? ⟨b,off + k * 3 + 1,none⟩ = some (.int .i64 f):=(HB.out.cell (p:=⟨b,_,none⟩) hb).trans x2
   have p3 : wr.cell? ⟨b,off + k * 3 + 2,none⟩ = some (.int .i64 t):=(HB.out.cell (p:=⟨b,_,none⟩) hb).trans x3
   have hi0 : (0 : Int) <= (k : Int):=by omega
   have hi1 : (k : Int) < (m.length : Int):=by omega
   have hq0:=sumC_bd (m.take k)
   have hq1:=long_bdC (f,t)
   have hq2:=List.length_take_le k m
   have hq3:=HNL.out
   clear hcl x1 x2 x3 hu
   go_wp2_with fail
   refine (R.long_any f t _).mono ?_
   rintro e w2 ⟨rfl,hb2⟩
   have HB3:=hide (HB.out.trans (hb2.mono HB.out.size))
   generalize long (f,t) = q at *
   generalize sumC (m.take k) = z at *
   clear hb2
   go_wp2_with fail
   go_roundw
   case rel => exact ⟨k + 1,by omega,by go_num,by rw [HTK.out],hide HB3.out⟩
   case measure => simp [intOf]; omega
  ·obtain rfl : k = m.length:=by omega
   rw [List.take_length]
   go_wp2_with fail
   go_ret
   exact ⟨ret_int HM.out,andthen HB1.out HB.out⟩
end Go.Proofs.YtgihekokbgggcaaGreat.S2

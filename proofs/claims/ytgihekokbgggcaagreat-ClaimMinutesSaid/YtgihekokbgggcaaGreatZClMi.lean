/- ClaimMinutes. Written by recipes/cl9.py. -/
import Derived.Test.YtgihekokbgggcaaGreatZClQ
import Derived.Test.YtgihekokbgggcaaGreatZClMiM
import Derived.Test.YtgihekokbgggcaaGreatZS4
set_option maxHeartbeats 8000000
set_option maxRecDepth 1000000
namespace Go.Proofs.YtgihekokbgggcaaGreat.S2
open Go.RowKit Spn Cl
theorem mi12_few (A B : Option Addr) (c d : Nat) (a b : List C) (x y : Int) (w : World) (h : RowC w A a) (k : RowC w B b) (hn : a.length <= maxLen) (hm : b.length <= maxLen) (hf : 30 < a.length ∨ ¬ 30 < a.length /\ 30 < b.length) :
  Calls Tryz.prog 5 #[.slice A a.length c,.slice B b.length d,.int .u8 x,.int .u16 y] w fun e w' => e = .returned (.bool true) /\ Below w.heap.size w w':=by
 have HA:=hide h
 have HB:=hide k
 clear h k
 go_enter Tryz.func5,Tryz.ntmps5
 go_wp2_with fail
 refine (known_any _).mono ?_
 rintro _ w1 ⟨rfl,hb⟩
 have HBX:=hide hb
 replace HA:=hide (HA.out.keep hb)
 replace HB:=hide (HB.out.keep hb)
 clear hb
 go_wp2_with fail
 rcases hf with hf | ⟨hf,hg⟩
 ·refine (few_at A _ c false _ hn (decide_eq_false (by omega))).mono ?_
  rintro _ w2 ⟨rfl,rfl⟩
  go_wp2_with fail
  go_ret
  exact ⟨rfl,HBX.out⟩
 ·refine (few_at A _ c true _ hn (decide_eq_true (by omega))).mono ?_
  rintro _ w2 ⟨rfl,rfl⟩
  go_wp2_with fail
  refine (few_at B _ d false _ hm (decide_eq_false (by omega))).mono ?_
  rintro _ w2 ⟨rfl,rfl⟩
  go_wp2_with fail
  go_ret
  exact ⟨rfl,HBX.out⟩
set_option linter.unusedSimpArgs false in
theorem mi12_yes (A B : Option Addr) (c d : Nat) (a b : List C) (x y : Int) (w : World) (h : RowC w A a) (k : RowC w B b) (hn : a.length <= 30) (hm : b.length <= 30) (x0 : 0 <= x) (x1 : x <= 255) (y0 : 0 <= y) (y1 : y <= 65535) :
  Calls Tryz.prog 5 #[.slice A a.length c,.slice B b.length d,.int .u8 x,.int .u16 y] w fun e w' => e = .returned (.bool true) /\ Below w.heap.size w w':=by
 have hl1:=neatC_len a
 have hl3:=meetC_len a b
 have hl4:=minusC_len a b
 have HA:=hide h
 have HB:=hide k
 clear h k
 go_enter Tryz.func5,Tryz.ntmps5
 go_wp2_with fail
 refine (known_any _).mono ?_
 rintro _ w1 ⟨rfl,hb⟩
 have HBX:=hide hb
 replace HA:=hide (HA.out.keep hb)
 replace HB:=hide (HB.out.keep hb)
 clear hb
 go_wp2_with fail
 refine (few_at A _ c true _ (by unfold maxLen; omega) (decide_eq_true (by omega))).mono ?_
 rintro _ w2 ⟨rfl,rfl⟩
 go_wp2_with fail
 refine (few_at B _ d true _ (by unfold maxLen; omega) (decide_eq_true (by omega))).mono ?_
 rintro _ w2 ⟨rfl,rfl⟩
 go_wp2_with fail
 obtain ⟨r,hr⟩ : ∃ r : Nat,x % 8 = (r : Int):=⟨(x % 8).toNat,by omega⟩
 have hr8 : r < 8:=by omega
 rw [hr]
 obtain ⟨p1,hp1⟩ : ∃ v,hasB a (r : Int) y = v:=⟨_,rfl⟩
 obtain ⟨p2,hp2⟩ : ∃ v,hasB b (r : Int) y = v:=⟨_,rfl⟩
 have HP1:=hide hp1
 have HP2:=hide hp2
 have HM1 : Hid (hasB (meetC a b) (r : Int) y = (p1 && p2)):=hide (by rw [has_meet12 a b r hr8,hp1,hp2])
 have HM2 : Hid (hasB (minusC a b) (r : Int) y = (p1 && !p2)):=hide (by rw [has_minus12 a b r hr8,hp1,hp2])
 have HM3 : Hid (hasB (neatC a) (r : Int) y = p1):=hide (by rw [has_neat12 a r hr8,hp1])
 have HLP:=hide (long_parts a b)
 have HPN:=hide (parts_neat a b)
 have hb1:=longC_bd a
 have hb2:=longC_bd (meetC a b)
 have hb3:=longC_bd (minusC a b)
 clear hp1 hp2 hr
 refine (has_at A _ c a (r : Int) y p1 _ HA.out rfl (by omega) HP1.out).mono ?_
 rintro _ w2 ⟨rfl,hb⟩
 replace HBX:=hide (andthen HBX.out hb)
 replace HA:=hide (HA.out.keep hb)
 replace HB:=hide (HB.out.keep hb)
 clear hb
 go_wp2_with fail
 refine (has_at B _ d b (r : Int) y p2 _ HB.out rfl (by omega) HP2.out).mono ?_
 rintro _ w3 ⟨rfl,hb⟩
 replace HBX:=hide (andthen HBX.out hb)
 replace HA:=hide (HA.out.keep hb)
 replace HB:=hide (HB.out.keep hb)
 clear hb HP1 HP2
 go_wp2_with fail
 refine (Meet_any A B _ _ c d a b _ HA.out HB.out rfl rfl (by omega) (by omega)).mono ?_
 rintro _ w4 ⟨v4,rfl,ho,hb⟩
 have HO4:=hide ho
 have hw4:=hb.size
 replace HBX:=hide (andthen HBX.out hb)
 replace HA:=hide (HA.out.keep hb)
 replace HB:=hide (HB.out.keep hb)
 obtain ⟨A4,c4,rfl,hr4,hz4⟩:=ho.row0
 have HR4:=hide hr4
 have HZ4:=hide hz4
 clear hb ho hr4 hz4
 go_wp2_with fail
 refine (Minus_any A B _ _ c d a b _ HA.out HB.out rfl rfl (by omega) (by omega)).mono ?_
 rintro _ w5 ⟨v5,rfl,ho,hb⟩
 have HO5:=hide ho
 have hw5:=hb.size
 replace HBX:=hide (andthen HBX.out hb)
 replace HA:=hide (HA.out.keep hb)
 replace HB:=hide (HB.out.keep hb)
 replace HR4:=hide (HR4.out.keep hb)
 replace HO4:=hide (HO4.out.keep hb)
 obtain ⟨A5,c5,rfl,hr5,hz5⟩:=ho.row0
 have HR5:=hide hr5
 have HZ5:=hide hz5
 clear hb ho hr5 hz5
 go_wp2_with fail
 refine (Neat_any A _ c a _ HA.out rfl (by omega)).mono ?_
 rintro _ w6 ⟨v6,rfl,ho,hb⟩
 replace HBX:=hide (andthen HBX.out hb)
 replace HA:=hide (HA.out.keep hb)
 replace HB:=hide (HB.out.keep hb)
 replace HR4:=hide (HR4.out.keep hb)
 replace HO4:=hide (HO4.out.keep hb)
 replace HR5:=hide (HR5.out.keep hb)
 replace HO5:=hide (HO5.out.keep hb)
 obtain ⟨A6,c6,rfl,hr6⟩:=ho.row
 have HR6:=hide hr6
 clear hb ho hr6
 have HPN2 : Hid (decide (neatC a = neatC (meetC a b ++ minusC a b)) = true):=hide (decide_eq_true HPN.out)
 clear HPN
 obtain ⟨N,hN,hNX⟩ : ∃ N,neatC a = N /\ ∀ (k : Nat) (h : k + 1 < N.length),lessC (N[k]'(by omega)) N[k + 1] = true /\ ((N[k]'(by omega)).1 = N[k + 1].1 -> touchB (N[k]'(by omega)).2 N[k + 1].2 = false):=⟨_,rfl,neat_next12 a⟩
 have HNX:=hide hNX
 rw [hN] at HR6 HM3 hl1 ⊢
 clear hNX
 go_wp2_with fail
 go_loopw [16] (fun i wr => ∃ k : Nat,(k <= N.length ∨ k = 0) /\ i = .int .i64 ((k : Int) + 1) /\ Hid (Below w6.heap.size w6 wr)) (fun i _ => N.length - (intOf i).toNat)
 case atStart => exact ⟨0,Or.inr rfl,rfl,hide (start _)⟩
 case round =>
  obtain ⟨k,hk,rfl,HBR⟩:=hrel
  by_cases hlt : k + 1 < N.length
  ·obtain ⟨b1,o1,rfl,hbb1,hcl⟩:=HR6.out (by intro h0; rw [h0] at hlt; exact absurd hlt (Nat.not_lt_zero _))
   obtain ⟨e1,e2,e3⟩:=hcl k (by omega)
   obtain ⟨e4,e5,e6⟩:=hcl (k + 1) hlt
   have hnx:=HNX.out k hlt
   obtain ⟨n1,hn1⟩ : ∃ n,N[k] = n:=⟨_,rfl⟩
   obtain ⟨n2,hn2⟩ : ∃ n,N[k + 1] = n:=⟨_,rfl⟩
   rw [hn1] at e1 e2 e3 hnx
   rw [hn2] at e4 e5 e6 hnx
   obtain ⟨p,f,t⟩:=n1
   obtain ⟨q,g,u⟩:=n2
   simp only at e1 e2 e3 e4 e5 e6 hnx
   have HLS:=hide hnx.1
   have HS0:=hide (And.intro (start wr) (And.intro ((HBR.out.cell (p:=⟨b1,_,none⟩) hbb1).trans e1) (And.intro ((HBR.out.cell (p:=⟨b1,_,none⟩) hbb1).trans e2) (And.intro ((HBR.out.cell (p:=⟨b1,_,none⟩) hbb1).trans e3) (And.intro ((HBR.out.cell (p:=⟨b1,_,none⟩) hbb1).trans e4) (And.intro ((HBR.out.cell (p:=⟨b1,_,none⟩) hbb1).trans e5) ((HBR.out.cell (p:=⟨b1,_,none⟩) hbb1).trans e6)))))))
   have g0 : (0 : Int) <= (k : Int):=by omega
   have g1 : (k : Int) < (N.length : Int):=by omega
   have g2 : (0 : Int) <= (k : Int) + 1:=by omega
   have g3 : (k : Int) + 1 < (N.length : Int):=by omega
   have g4 : ((k : Int) + 1).toNat = k + 1:=by omega
   have g5 : (k : Int) + 1 - 1 = (k : Int):=by omega
   have hwk : IntKind.i64.wrap (k : Int) = (k : Int):=by rw [IntKind.wrap_i64]; omega
   clear hcl e1 e2 e3 e4 e5 e6 hn1 hn2
   by_cases hpq : p = q
   ·have HTC:=hide (hnx.2 hpq)
    have z1 : (p == q) = true:=by rw [beq_iff_eq]; exact hpq
    clear hpq hnx
    go_wp2_with fail
    refine wp_region_held_drew (S:=fun w' => Below wr.heap.size wr w' /\ w'.cell? ⟨b1,o1 + k * 3,none⟩ = some (.int .i64 p) /\ w'.cell? ⟨b1,o1 + k * 3 + 1,none⟩ = some (.int .i64 f) /\ w'.cell? ⟨b1,o1 + k * 3 + 2,none⟩ = some (.int .i64 t) /\ w'.cell? ⟨b1,o1 + (k + 1) * 3,none⟩ = some (.int .i64 q) /\ w'.cell? ⟨b1,o1 + (k + 1) * 3 + 1,none⟩ = some (.int .i64 g) /\ w'.cell? ⟨b1,o1 + (k + 1) * 3 + 2,none⟩ = some (.int .i64 u)) (by kernel_rfl) ?_ (fun hH0 => ?_)
    ·exact sK_keep (start wr).drew HS0.out
    refine' wpAnyH_take (i:=0) (oi:=_) (v:=?v0) rfl (by as_aux_lemma => kernel_rfl) (by as_aux_lemma => kernel_rfl) (by as_aux_lemma => kernel_rfl) (fun _ _ _ h => h) (Or.inl ⟨by rfl,?y0⟩) hH0 ?r0
    case y0 => (intro w hSw; (try dsimp only at hSw); go_simp; (try with_reducible rfl))
    try simp only [Act.put,List.getElem_toArray,List.getElem_cons_succ,List.getElem_cons_zero,List.setIfInBounds_toArray,List.set_cons_zero,List.set_cons_succ]
    refine' wpAnyH_take (i:=1) (oi:=_) (v:=?v1) rfl (by as_aux_lemma => kernel_rfl) (by as_aux_lemma => kernel_rfl) (by as_aux_lemma => kernel_rfl) (fun _ _ _ h => h) (Or.inl ⟨by rfl,?y1⟩) hH0 ?r1
    case y1 => (intro w hSw; (try dsimp only at hSw); go_simp; (try with_reducible rfl))
    try simp only [Act.put,List.getElem_toArray,List.getElem_cons_succ,List.getElem_cons_zero,List.setIfInBounds_toArray,List.set_cons_zero,List.set_cons_succ]
    refine' wpAnyH_take (i:=2) (oi:=_) (v:=?v2) rfl (by as_aux_lemma => kernel_rfl) (by as_aux_lemma => kernel_rfl) (by as_aux_lemma => kernel_rfl) (fun _ _ _ h => h) (Or.inl ⟨by rfl,?y2⟩) hH0 ?r2
    case y2 => (intro w hSw; (try dsimp only at hSw); go_simp; (try with_reducible rfl))
    try simp only [Act.put,List.getElem_toArray,List.getElem_cons_succ,List.getElem_cons_zero,List.setIfInBounds_toArray,List.set_cons_zero,List.set_cons_succ]
    refine' wpAnyH_take (i:=3) (oi:=_) (v:=?v3) rfl (by as_aux_lemma => kernel_rfl) (by as_aux_lemma => kernel_rfl) (by as_aux_lemma => kernel_rfl) (fun _ _ _ h => h) (Or.inl ⟨by rfl,?y3⟩) hH0 ?r3
    case y3 => (intro w hSw; (try dsimp only at hSw); go_simp; (try with_reducible rfl))
    try simp only [Act.put,List.getElem_toArray,List.getElem_cons_succ,List.getElem_cons_zero,List.setIfInBounds_toArray,List.set_cons_zero,List.set_cons_succ]
    refine' wpAnyH_take (i:=4) (oi:=_) (v:=?v4) rfl (by as_aux_lemma => kernel_rfl) (by as_aux_lemma => kernel_rfl) (by as_aux_lemma => kernel_rfl) (fun _ _ _ h => h) (Or.inl ⟨by rfl,?y4⟩) hH0 ?r4
    case y4 => (intro w hSw; (try dsimp only at hSw); go_simp; (try with_reducible rfl))
    try simp only [Act.put,List.getElem_toArray,List.getElem_cons_succ,List.getElem_cons_zero,List.setIfInBounds_toArray,List.set_cons_zero,List.set_cons_succ]
    refine' wpAnyH_take (i:=5) (oi:=_) (v:=?v5) rfl (by as_aux_lemma => kernel_rfl) (by as_aux_lemma => kernel_rfl) (by as_aux_lemma => kernel_rfl) (fun _ _ _ h => h) (Or.inl ⟨by rfl,?y5⟩) hH0 ?r5
    case y5 => (intro w hSw; (try dsimp only at hSw); go_simp; (try with_reducible rfl))
    try simp only [Act.put,List.getElem_toArray,List.getElem_cons_succ,List.getElem_cons_zero,List.setIfInBounds_toArray,List.set_cons_zero,List.set_cons_succ]
    refine' wpAnyH_take (i:=6) (oi:=_) (v:=?v6) rfl (by as_aux_lemma => kernel_rfl) (by as_aux_lemma => kernel_rfl) (by as_aux_lemma => kernel_rfl) (fun _ _ _ h => h) (Or.inl ⟨by rfl,?y6⟩) hH0 ?r6
    case y6 => (intro w hSw; (try dsimp only at hSw); go_simp; (try with_reducible rfl))
    try simp only [Act.put,List.getElem_toArray,List.getElem_cons_succ,List.getElem_cons_zero,List.setIfInBounds_toArray,List.set_cons_zero,List.set_cons_succ]
    refine' wpAnyH_take (i:=7) (oi:=_) (v:=?v7) rfl (by as_aux_lemma => kernel_rfl) (by as_aux_lemma => kernel_rfl) (by as_aux_lemma => kernel_rfl) (fun _ _ _ h => h) (Or.inl ⟨by rfl,?y7⟩) hH0 ?r7
    case y7 => (intro w hSw; (try dsimp only at hSw); go_simp; (try with_reducible rfl))
    try simp only [Act.put,List.getElem_toArray,List.getElem_cons_succ,List.getElem_cons_zero,List.setIfInBounds_toArray,List.set_cons_zero,List.set_cons_succ]
    refine' wpAnyH_take (i:=8) (oi:=_) (v:=?v8) rfl (by as_aux_lemma => kernel_rfl) (by as_aux_lemma => kernel_rfl) (by as_aux_lemma => kernel_rfl) (fun _ _ _ h => h) (Or.inl ⟨by rfl,?y8⟩) hH0 ?r8
    case y8 => (intro w hSw; (try dsimp only at hSw); go_simp; (try with_reducible rfl))
    try simp only [Act.put,List.getElem_toArray,List.getElem_cons_succ,List.getElem_cons_zero,List.setIfInBounds_toArray,List.set_cons_zero,List.set_cons_succ]
    refine wpAnyH_ready (rs:=[9]) (by as_aux_lemma => kernel_rfl) (by simp) ?_
    refine AllReadyH.cons (o:=_) rfl (fun K hK => ?_) AllReadyH.nil
    go_simp
    refine (cLess_any p f t q g u _).mono ?_
    rw [HLS.out]
    rintro _ wz ⟨rfl,hb⟩
    refine hK.out _ _ (sK_keep hb hH0) (fun hN => ?_)
    clear hK K hH0
    have hH1:=hN
    clear hN
    try simp only [Act.put,List.getElem_toArray,List.getElem_cons_succ,List.getElem_cons_zero,List.setIfInBounds_toArray,List.set_cons_zero,List.set_cons_succ]
    refine' wpAnyH_take (i:=10) (oi:=_) (v:=?v9) rfl (by as_aux_lemma => kernel_rfl) (by as_aux_lemma => kernel_rfl) (by as_aux_lemma => kernel_rfl) (fun _ _ _ h => h) (Or.inl ⟨by rfl,?y9⟩) hH1 ?r9
    case y9 => (intro w hSw; (try dsimp only at hSw); go_simp; (try with_reducible rfl))
    try simp only [Act.put,List.getElem_toArray,List.getElem_cons_succ,List.getElem_cons_zero,List.setIfInBounds_toArray,List.set_cons_zero,List.set_cons_succ]
    refine' wpAnyH_take (i:=11) (oi:=_) (v:=?v10) rfl (by as_aux_lemma => kernel_rfl) (by as_aux_lemma => kernel_rfl) (by as_aux_lemma => kernel_rfl) (fun _ _ _ h => h) (Or.inl ⟨by rfl,?y10⟩) hH1 ?r10
    case y10 => (intro w hSw; (try dsimp only at hSw); go_simp; (try with_reducible rfl))
    try simp only [Act.put,List.getElem_toArray,List.getElem_cons_succ,List.getElem_cons_zero,List.setIfInBounds_toArray,List.set_cons_zero,List.set_cons_succ]
    refine' wpAnyH_take (i:=12) (oi:=_) (v:=?v11) rfl (by as_aux_lemma => kernel_rfl) (by as_aux_lemma => kernel_rfl) (by as_aux_lemma => kernel_rfl) (fun _ _ _ h => h) (Or.inl ⟨by rfl,?y11⟩) hH1 ?r11
    case y11 => (intro w hSw; (try dsimp only at hSw); go_simp; (try with_reducible rfl))
    try simp only [Act.put,List.getElem_toArray,List.getElem_cons_succ,List.getElem_cons_zero,List.setIfInBounds_toArray,List.set_cons_zero,List.set_cons_succ]
    refine' wpAnyH_take (i:=13) (oi:=_) (v:=?v12) rfl (by as_aux_lemma => kernel_rfl) (by as_aux_lemma => kernel_rfl) (by as_aux_lemma => kernel_rfl) (fun _ _ _ h => h) (Or.inl ⟨by rfl,?y12⟩) hH1 ?r12
    case y12 => (intro w hSw; (try dsimp only at hSw); go_simp; (try with_reducible rfl))
    try simp only [Act.put,List.getElem_toArray,List.getElem_cons_succ,List.getElem_cons_zero,List.setIfInBounds_toArray,List.set_cons_zero,List.set_cons_succ]
    refine' wpAnyH_take (i:=14) (oi:=_) (v:=?v13) rfl (by as_aux_lemma => kernel_rfl) (by as_aux_lemma => kernel_rfl) (by as_aux_lemma => kernel_rfl) (fun _ _ _ h => h) (Or.inl ⟨by rfl,?y13⟩) hH1 ?r13
    case y13 => (intro w hSw; (try dsimp only at hSw); go_simp; (try with_reducible rfl))
    try simp only [Act.put,List.getElem_toArray,List.getElem_cons_succ,List.getElem_cons_zero,List.setIfInBounds_toArray,List.set_cons_zero,List.set_cons_succ]
    refine' wpAnyH_take (i:=15) (oi:=_) (v:=?v14) rfl (by as_aux_lemma => kernel_rfl) (by as_aux_lemma => kernel_rfl) (by as_aux_lemma => kernel_rfl) (fun _ _ _ h => h) (Or.inl ⟨by rfl,?y14⟩) hH1 ?r14
    case y14 => (intro w hSw; (try dsimp only at hSw); go_simp; (try with_reducible rfl))
    try simp only [Act.put,List.getElem_toArray,List.getElem_cons_succ,List.getElem_cons_zero,List.setIfInBounds_toArray,List.set_cons_zero,List.set_cons_succ]
    refine' wpAnyH_take (i:=16) (oi:=_) (v:=?v15) rfl (by as_aux_lemma => kernel_rfl) (by as_aux_lemma => kernel_rfl) (by as_aux_lemma => kernel_rfl) (fun _ _ _ h => h) (Or.inl ⟨by rfl,?y15⟩) hH1 ?r15
    case y15 => (intro w hSw; (try dsimp only at hSw); go_simp; (try with_reducible rfl))
    try simp only [Act.put,List.getElem_toArray,List.getElem_cons_succ,List.getElem_cons_zero,List.setIfInBounds_toArray,List.set_cons_zero,List.set_cons_succ]
    refine' wpAnyH_take (i:=17) (oi:=_) (v:=?v16) rfl (by as_aux_lemma => kernel_rfl) (by as_aux_lemma => kernel_rfl) (by as_aux_lemma => kernel_rfl) (fun _ _ _ h => h) (Or.inl ⟨by rfl,?y16⟩) hH1 ?r16
    case y16 => (intro w hSw; (try dsimp only at hSw); go_simp; (try with_reducible rfl))
    try simp only [Act.put,List.getElem_toArray,List.getElem_cons_succ,List.getElem_cons_zero,List.setIfInBounds_toArray,List.set_cons_zero,List.set_cons_succ]
    refine' wpAnyH_take (i:=18) (oi:=_) (v:=?v17) rfl (by as_aux_lemma => kernel_rfl) (by as_aux_lemma => kernel_rfl) (by as_aux_lemma => kernel_rfl) (fun _ _ _ h => h) (Or.inl ⟨by rfl,?y17⟩) hH1 ?r17
    case y17 => (intro w hSw; (try dsimp only at hSw); go_simp; (try with_reducible rfl))
    try simp only [Act.put,List.getElem_toArray,List.getElem_cons_succ,List.getElem_cons_zero,List.setIfInBounds_toArray,List.set_cons_zero,List.set_cons_succ]
    refine' wpAnyH_take (i:=19) (oi:=_) (v:=?v18) rfl (by as_aux_lemma => kernel_rfl) (by as_aux_lemma => kernel_rfl) (by as_aux_lemma => kernel_rfl) (fun _ _ _ h => h) (Or.inl ⟨by rfl,?y18⟩) hH1 ?r18
    case y18 => (intro w hSw; (try dsimp only at hSw); go_simp; (try with_reducible rfl))
    try simp only [Act.put,List.getElem_toArray,List.getElem_cons_succ,List.getElem_cons_zero,List.setIfInBounds_toArray,List.set_cons_zero,List.set_cons_succ]
    refine' wpAnyH_take (i:=20) (oi:=_) (v:=?v19) rfl (by as_aux_lemma => kernel_rfl) (by as_aux_lemma => kernel_rfl) (by as_aux_lemma => kernel_rfl) (fun _ _ _ h => h) (Or.inl ⟨by rfl,?y19⟩) hH1 ?r19
    case y19 => (intro w hSw; (try dsimp only at hSw); go_simp; (try with_reducible rfl))
    try simp only [Act.put,List.getElem_toArray,List.getElem_cons_succ,List.getElem_cons_zero,List.setIfInBounds_toArray,List.set_cons_zero,List.set_cons_succ]
    refine' wpAnyH_take (i:=21) (oi:=_) (v:=?v20) rfl (by as_aux_lemma => kernel_rfl) (by as_aux_lemma => kernel_rfl) (by as_aux_lemma => kernel_rfl) (fun _ _ _ h => h) (Or.inl ⟨by rfl,?y20⟩) hH1 ?r20
    case y20 => (intro w hSw; (try dsimp only at hSw); go_simp; (try with_reducible rfl))
    try simp only [Act.put,List.getElem_toArray,List.getElem_cons_succ,List.getElem_cons_zero,List.setIfInBounds_toArray,List.set_cons_zero,List.set_cons_succ]
    refine' wpAnyH_take (i:=22) (oi:=_) (v:=?v21) rfl (by as_aux_lemma => kernel_rfl) (by as_aux_lemma => kernel_rfl) (by as_aux_lemma => kernel_rfl) (fun _ _ _ h => h) (Or.inl ⟨by rfl,?y21⟩) hH1 ?r21
    case y21 => (intro w hSw; (try dsimp only at hSw); go_simp; (try with_reducible rfl))
    try simp only [Act.put,List.getElem_toArray,List.getElem_cons_succ,List.getElem_cons_zero,List.setIfInBounds_toArray,List.set_cons_zero,List.set_cons_succ]
    refine' wpAnyH_take (i:=23) (oi:=_) (v:=?v22) rfl (by as_aux_lemma => kernel_rfl) (by as_aux_lemma => kernel_rfl) (by as_aux_lemma => kernel_rfl) (fun _ _ _ h => h) (Or.inl ⟨by rfl,?y22⟩) hH1 ?r22
    case y22 => (intro w hSw; (try dsimp only at hSw); go_simp; (try with_reducible rfl))
    try simp only [Act.put,List.getElem_toArray,List.getElem_cons_succ,List.getElem_cons_zero,List.setIfInBounds_toArray,List.set_cons_zero,List.set_cons_succ]
    refine' wpAnyH_take (i:=24) (oi:=_) (v:=?v23) rfl (by as_aux_lemma => kernel_rfl) (by as_aux_lemma => kernel_rfl) (by as_aux_lemma => kernel_rfl) (fun _ _ _ h => h) (Or.inl ⟨by rfl,?y23⟩) hH1 ?r23
    case y23 => (intro w hSw; (try dsimp only at hSw); go_simp; (try with_reducible rfl))
    try simp only [Act.put,List.getElem_toArray,List.getElem_cons_succ,List.getElem_cons_zero,List.setIfInBounds_toArray,List.set_cons_zero,List.set_cons_succ]
    refine' wpAnyH_take (i:=25) (oi:=_) (v:=?v24) rfl (by as_aux_lemma => kernel_rfl) (by as_aux_lemma => kernel_rfl) (by as_aux_lemma => kernel_rfl) (fun _ _ _ h => h) (Or.inl ⟨by rfl,?y24⟩) hH1 ?r24
    case y24 => (intro w hSw; (try dsimp only at hSw); go_simp; (try with_reducible rfl))
    try simp only [Act.put,List.getElem_toArray,List.getElem_cons_succ,List.getElem_cons_zero,List.setIfInBounds_toArray,List.set_cons_zero,List.set_cons_succ]
    refine' wpAnyH_take (i:=26) (oi:=_) (v:=?v25) rfl (by as_aux_lemma => kernel_rfl) (by as_aux_lemma => kernel_rfl) (by as_aux_lemma => kernel_rfl) (fun _ _ _ h => h) (Or.inl ⟨by rfl,?y25⟩) hH1 ?r25
    case y25 => (intro w hSw; (try dsimp only at hSw); go_simp; (try with_reducible rfl))
    try simp only [Act.put,List.getElem_toArray,List.getElem_cons_succ,List.getElem_cons_zero,List.setIfInBounds_toArray,List.set_cons_zero,List.set_cons_succ]
    refine' wpAnyH_take (i:=27) (oi:=_) (v:=?v26) rfl (by as_aux_lemma => kernel_rfl) (by as_aux_lemma => kernel_rfl) (by as_aux_lemma => kernel_rfl) (fun _ _ _ h => h) (Or.inl ⟨by rfl,?y26⟩) hH1 ?r26
    case y26 => (intro w hSw; (try dsimp only at hSw); go_simp; (try with_reducible rfl))
    try simp only [Act.put,List.getElem_toArray,List.getElem_cons_succ,List.getElem_cons_zero,List.setIfInBounds_toArray,List.set_cons_zero,List.set_cons_succ]
    refine' wpAnyH_take (i:=28) (oi:=_) (v:=?v27) rfl (by as_aux_lemma => kernel_rfl) (by as_aux_lemma => kernel_rfl) (by as_aux_lemma => kernel_rfl) (fun _ _ _ h => h) (Or.inl ⟨by rfl,?y27⟩) hH1 ?r27
    case y27 => (intro w hSw; (try dsimp only at hSw); go_simp; (try with_reducible rfl))
    try simp only [Act.put,List.getElem_toArray,List.getElem_cons_succ,List.getElem_cons_zero,List.setIfInBounds_toArray,List.set_cons_zero,List.set_cons_succ]
    refine' wpAnyH_take (i:=29) (oi:=_) (v:=?v28) rfl (by as_aux_lemma => kernel_rfl) (by as_aux_lemma => kernel_rfl) (by as_aux_lemma => kernel_rfl) (fun _ _ _ h => h) (Or.inl ⟨by rfl,?y28⟩) hH1 ?r28
    case y28 => (intro w hSw; (try dsimp only at hSw); go_simp; (try with_reducible rfl))
    try simp only [Act.put,List.getElem_toArray,List.getElem_cons_succ,List.getElem_cons_zero,List.setIfInBounds_toArray,List.set_cons_zero,List.set_cons_succ]
    refine' wpAnyH_take (i:=30) (oi:=_) (v:=?v29) rfl (by as_aux_lemma => kernel_rfl) (by as_aux_lemma => kernel_rfl) (by as_aux_lemma => kernel_rfl) (fun _ _ _ h => h) (Or.inl ⟨by rfl,?y29⟩) hH1 ?r29
    case y29 => (intro w hSw; (try dsimp only at hSw); go_simp; (try with_reducible rfl))
    try simp only [Act.put,List.getElem_toArray,List.getElem_cons_succ,List.getElem_cons_zero,List.setIfInBounds_toArray,List.set_cons_zero,List.set_cons_succ]
    refine' wpAnyH_take (i:=31) (oi:=_) (v:=?v30) rfl (by as_aux_lemma => kernel_rfl) (by as_aux_lemma => kernel_rfl) (by as_aux_lemma => kernel_rfl) (fun _ _ _ h => h) (Or.inl ⟨by rfl,?y30⟩) hH1 ?r30
    case y30 => (intro w hSw; (try dsimp only at hSw); go_simp; (try with_reducible rfl))
    try simp only [Act.put,List.getElem_toArray,List.getElem_cons_succ,List.getElem_cons_zero,List.setIfInBounds_toArray,List.set_cons_zero,List.set_cons_succ]
    refine' wpAnyH_take (i:=32) (oi:=_) (v:=?v31) rfl (by as_aux_lemma => kernel_rfl) (by as_aux_lemma => kernel_rfl) (by as_aux_lemma => kernel_rfl) (fun _ _ _ h => h) (Or.inl ⟨by rfl,?y31⟩) hH1 ?r31
    case y31 => (intro w hSw; (try dsimp only at hSw); go_simp; (try with_reducible rfl))
    try simp only [Act.put,List.getElem_toArray,List.getElem_cons_succ,List.getElem_cons_zero,List.setIfInBounds_toArray,List.set_cons_zero,List.set_cons_succ]
    refine' wpAnyH_take (i:=33) (oi:=_) (v:=?v32) rfl (by as_aux_lemma => kernel_rfl) (by as_aux_lemma => kernel_rfl) (by as_aux_lemma => kernel_rfl) (fun _ _ _ h => h) (Or.inl ⟨by rfl,?y32⟩) hH1 ?r32
    case y32 => (intro w hSw; (try dsimp only at hSw); go_simp; (try with_reducible rfl))
    try simp only [Act.put,List.getElem_toArray,List.getElem_cons_succ,List.getElem_cons_zero,List.setIfInBounds_toArray,List.set_cons_zero,List.set_cons_succ]
    refine' wpAnyH_take (i:=34) (oi:=_) (v:=?v33) rfl (by as_aux_lemma => kernel_rfl) (by as_aux_lemma => kernel_rfl) (by as_aux_lemma => kernel_rfl) (fun _ _ _ h => h) (Or.inl ⟨by rfl,?y33⟩) hH1 ?r33
    case y33 => (intro w hSw; (try dsimp only at hSw); go_simp; (try with_reducible rfl))
    try simp only [Act.put,List.getElem_toArray,List.getElem_cons_succ,List.getElem_cons_zero,List.setIfInBounds_toArray,List.set_cons_zero,List.set_cons_succ]
    refine' wpAnyH_take (i:=35) (oi:=_) (v:=?v34) rfl (by as_aux_lemma => kernel_rfl) (by as_aux_lemma => kernel_rfl) (by as_aux_lemma => kernel_rfl) (fun _ _ _ h => h) (Or.inl ⟨by rfl,?y34⟩) hH1 ?r34
    case y34 => (intro w hSw; (try dsimp only at hSw); go_simp; (try with_reducible rfl))
    try simp only [Act.put,List.getElem_toArray,List.getElem_cons_succ,List.getElem_cons_zero,List.setIfInBounds_toArray,List.set_cons_zero,List.set_cons_succ]
    refine wpAnyH_ready (rs:=[36]) (by as_aux_lemma => kernel_rfl) (by simp) ?_
    refine AllReadyH.cons (o:=_) rfl (fun K hK => ?_) AllReadyH.nil
    go_simp
    refine (R.touch_any f t g u _).mono ?_
    rw [HTC.out]
    rintro _ wz ⟨rfl,hb⟩
    refine hK.out _ _ (sK_keep hb hH1) (fun hN => ?_)
    clear hK K hH1
    have hH2:=hN
    clear hN
    try simp only [Act.put,List.getElem_toArray,List.getElem_cons_succ,List.getElem_cons_zero,List.setIfInBounds_toArray,List.set_cons_zero,List.set_cons_succ]
    refine' wpAnyH_take (i:=37) (oi:=_) (v:=?v35) rfl (by as_aux_lemma => kernel_rfl) (by as_aux_lemma => kernel_rfl) (by as_aux_lemma => kernel_rfl) (fun _ _ _ h => h) (Or.inl ⟨by rfl,?y35⟩) hH2 ?r35
    case y35 => (intro w hSw; (try dsimp only at hSw); go_simp; (try with_reducible rfl))
    try simp only [Act.put,List.getElem_toArray,List.getElem_cons_succ,List.getElem_cons_zero,List.setIfInBounds_toArray,List.set_cons_zero,List.set_cons_succ]
    refine' wpAnyH_take (i:=38) (oi:=_) (v:=?v36) rfl (by as_aux_lemma => kernel_rfl) (by as_aux_lemma => kernel_rfl) (by as_aux_lemma => kernel_rfl) (fun _ _ _ h => h) (Or.inl ⟨by rfl,?y36⟩) hH2 ?r36
    case y36 => (intro w hSw; (try dsimp only at hSw); go_simp; (try with_reducible rfl))
    try simp only [Act.put,List.getElem_toArray,List.getElem_cons_succ,List.getElem_cons_zero,List.setIfInBounds_toArray,List.set_cons_zero,List.set_cons_succ]
    refine wpAnyH_done (by as_aux_lemma => kernel_rfl) ?_ _
    have HBE:=hide (HBR.out.trans (hH2.1.mono HBR.out.size))
    clear hH2
    go_wp2_with fail
    go_roundw
    case rel => exact ⟨k + 1,by omega,by go_num,hide HBE.out⟩
    case measure => simp [intOf]; omega
   ·have z1 : (p == q) = false:=by rw [beq_eq_false_iff_ne]; exact hpq
    clear hpq hnx
    go_wp2_with fail
    refine wp_region_held_drew (S:=fun w' => Below wr.heap.size wr w' /\ w'.cell? ⟨b1,o1 + k * 3,none⟩ = some (.int .i64 p) /\ w'.cell? ⟨b1,o1 + k * 3 + 1,none⟩ = some (.int .i64 f) /\ w'.cell? ⟨b1,o1 + k * 3 + 2,none⟩ = some (.int .i64 t) /\ w'.cell? ⟨b1,o1 + (k + 1) * 3,none⟩ = some (.int .i64 q) /\ w'.cell? ⟨b1,o1 + (k + 1) * 3 + 1,none⟩ = some (.int .i64 g) /\ w'.cell? ⟨b1,o1 + (k + 1) * 3 + 2,none⟩ = some (.int .i64 u)) (by kernel_rfl) ?_ (fun hH0 => ?_)
    ·exact sK_keep (start wr).drew HS0.out
    refine' wpAnyH_take (i:=0) (oi:=_) (v:=?v300) rfl (by as_aux_lemma => kernel_rfl) (by as_aux_lemma => kernel_rfl) (by as_aux_lemma => kernel_rfl) (fun _ _ _ h => h) (Or.inl ⟨by rfl,?y300⟩) hH0 ?r300
    case y300 => (intro w hSw; (try dsimp only at hSw); go_simp; (try with_reducible rfl))
    try simp only [Act.put,List.getElem_toArray,List.getElem_cons_succ,List.getElem_cons_zero,List.setIfInBounds_toArray,List.set_cons_zero,List.set_cons_succ]
    refine' wpAnyH_take (i:=1) (oi:=_) (v:=?v301) rfl (by as_aux_lemma => kernel_rfl) (by as_aux_lemma => kernel_rfl) (by as_aux_lemma => kernel_rfl) (fun _ _ _ h => h) (Or.inl ⟨by rfl,?y301⟩) hH0 ?r301
    case y301 => (intro w hSw; (try dsimp only at hSw); go_simp; (try with_reducible rfl))
    try simp only [Act.put,List.getElem_toArray,List.getElem_cons_succ,List.getElem_cons_zero,List.setIfInBounds_toArray,List.set_cons_zero,List.set_cons_succ]
    refine' wpAnyH_take (i:=2) (oi:=_) (v:=?v302) rfl (by as_aux_lemma => kernel_rfl) (by as_aux_lemma => kernel_rfl) (by as_aux_lemma => kernel_rfl) (fun _ _ _ h => h) (Or.inl ⟨by rfl,?y302⟩) hH0 ?r302
    case y302 => (intro w hSw; (try dsimp only at hSw); go_simp; (try with_reducible rfl))
    try simp only [Act.put,List.getElem_toArray,List.getElem_cons_succ,List.getElem_cons_zero,List.setIfInBounds_toArray,List.set_cons_zero,List.set_cons_succ]
    refine' wpAnyH_take (i:=3) (oi:=_) (v:=?v303) rfl (by as_aux_lemma => kernel_rfl) (by as_aux_lemma => kernel_rfl) (by as_aux_lemma => kernel_rfl) (fun _ _ _ h => h) (Or.inl ⟨by rfl,?y303⟩) hH0 ?r303
    case y303 => (intro w hSw; (try dsimp only at hSw); go_simp; (try with_reducible rfl))
    try simp only [Act.put,List.getElem_toArray,List.getElem_cons_succ,List.getElem_cons_zero,List.setIfInBounds_toArray,List.set_cons_zero,List.set_cons_succ]
    refine' wpAnyH_take (i:=4) (oi:=_) (v:=?v304) rfl (by as_aux_lemma => kernel_rfl) (by as_aux_lemma => kernel_rfl) (by as_aux_lemma => kernel_rfl) (fun _ _ _ h => h) (Or.inl ⟨by rfl,?y304⟩) hH0 ?r304
    case y304 => (intro w hSw; (try dsimp only at hSw); go_simp; (try with_reducible rfl))
    try simp only [Act.put,List.getElem_toArray,List.getElem_cons_succ,List.getElem_cons_zero,List.setIfInBounds_toArray,List.set_cons_zero,List.set_cons_succ]
    refine' wpAnyH_take (i:=5) (oi:=_) (v:=?v305) rfl (by as_aux_lemma => kernel_rfl) (by as_aux_lemma => kernel_rfl) (by as_aux_lemma => kernel_rfl) (fun _ _ _ h => h) (Or.inl ⟨by rfl,?y305⟩) hH0 ?r305
    case y305 => (intro w hSw; (try dsimp only at hSw); go_simp; (try with_reducible rfl))
    try simp only [Act.put,List.getElem_toArray,List.getElem_cons_succ,List.getElem_cons_zero,List.setIfInBounds_toArray,List.set_cons_zero,List.set_cons_succ]
    refine' wpAnyH_take (i:=6) (oi:=_) (v:=?v306) rfl (by as_aux_lemma => kernel_rfl) (by as_aux_lemma => kernel_rfl) (by as_aux_lemma => kernel_rfl) (fun _ _ _ h => h) (Or.inl ⟨by rfl,?y306⟩) hH0 ?r306
    case y306 => (intro w hSw; (try dsimp only at hSw); go_simp; (try with_reducible rfl))
    try simp only [Act.put,List.getElem_toArray,List.getElem_cons_succ,List.getElem_cons_zero,List.setIfInBounds_toArray,List.set_cons_zero,List.set_cons_succ]
    refine' wpAnyH_take (i:=7) (oi:=_) (v:=?v307) rfl (by as_aux_lemma => kernel_rfl) (by as_aux_lemma => kernel_rfl) (by as_aux_lemma => kernel_rfl) (fun _ _ _ h => h) (Or.inl ⟨by rfl,?y307⟩) hH0 ?r307
    case y307 => (intro w hSw; (try dsimp only at hSw); go_simp; (try with_reducible rfl))
    try simp only [Act.put,List.getElem_toArray,List.getElem_cons_succ,List.getElem_cons_zero,List.setIfInBounds_toArray,List.set_cons_zero,List.set_cons_succ]
    refine' wpAnyH_take (i:=8) (oi:=_) (v:=?v308) rfl (by as_aux_lemma => kernel_rfl) (by as_aux_lemma => kernel_rfl) (by as_aux_lemma => kernel_rfl) (fun _ _ _ h => h) (Or.inl ⟨by rfl,?y308⟩) hH0 ?r308
    case y308 => (intro w hSw; (try dsimp only at hSw); go_simp; (try with_reducible rfl))
    try simp only [Act.put,List.getElem_toArray,List.getElem_cons_succ,List.getElem_cons_zero,List.setIfInBounds_toArray,List.set_cons_zero,List.set_cons_succ]
    refine wpAnyH_ready (rs:=[9]) (by as_aux_lemma => kernel_rfl) (by simp) ?_
    refine AllReadyH.cons (o:=_) rfl (fun K hK => ?_) AllReadyH.nil
    go_simp
    refine (cLess_any p f t q g u _).mono ?_
    rw [HLS.out]
    rintro _ wz ⟨rfl,hb⟩
    refine hK.out _ _ (sK_keep hb hH0) (fun hN => ?_)
    clear hK K hH0
    have hH1:=hN
    clear hN
    try simp only [Act.put,List.getElem_toArray,List.getElem_cons_succ,List.getElem_cons_zero,List.setIfInBounds_toArray,List.set_cons_zero,List.set_cons_succ]
    refine' wpAnyH_take (i:=10) (oi:=_) (v:=?v309) rfl (by as_aux_lemma => kernel_rfl) (by as_aux_lemma => kernel_rfl) (by as_aux_lemma => kernel_rfl) (fun _ _ _ h => h) (Or.inl ⟨by rfl,?y309⟩) hH1 ?r309
    case y309 => (intro w hSw; (try dsimp only at hSw); go_simp; (try with_reducible rfl))
    try simp only [Act.put,List.getElem_toArray,List.getElem_cons_succ,List.getElem_cons_zero,List.setIfInBounds_toArray,List.set_cons_zero,List.set_cons_succ]
    refine' wpAnyH_take (i:=11) (oi:=_) (v:=?v310) rfl (by as_aux_lemma => kernel_rfl) (by as_aux_lemma => kernel_rfl) (by as_aux_lemma => kernel_rfl) (fun _ _ _ h => h) (Or.inl ⟨by rfl,?y310⟩) hH1 ?r310
    case y310 => (intro w hSw; (try dsimp only at hSw); go_simp; (try with_reducible rfl))
    try simp only [Act.put,List.getElem_toArray,List.getElem_cons_succ,List.getElem_cons_zero,List.setIfInBounds_toArray,List.set_cons_zero,List.set_cons_succ]
    refine' wpAnyH_take (i:=12) (oi:=_) (v:=?v311) rfl (by as_aux_lemma => kernel_rfl) (by as_aux_lemma => kernel_rfl) (by as_aux_lemma => kernel_rfl) (fun _ _ _ h => h) (Or.inl ⟨by rfl,?y311⟩) hH1 ?r311
    case y311 => (intro w hSw; (try dsimp only at hSw); go_simp; (try with_reducible rfl))
    try simp only [Act.put,List.getElem_toArray,List.getElem_cons_succ,List.getElem_cons_zero,List.setIfInBounds_toArray,List.set_cons_zero,List.set_cons_succ]
    refine' wpAnyH_take (i:=13) (oi:=_) (v:=?v312) rfl (by as_aux_lemma => kernel_rfl) (by as_aux_lemma => kernel_rfl) (by as_aux_lemma => kernel_rfl) (fun _ _ _ h => h) (Or.inl ⟨by rfl,?y312⟩) hH1 ?r312
    case y312 => (intro w hSw; (try dsimp only at hSw); go_simp; (try with_reducible rfl))
    try simp only [Act.put,List.getElem_toArray,List.getElem_cons_succ,List.getElem_cons_zero,List.setIfInBounds_toArray,List.set_cons_zero,List.set_cons_succ]
    refine' wpAnyH_take (i:=14) (oi:=_) (v:=?v313) rfl (by as_aux_lemma => kernel_rfl) (by as_aux_lemma => kernel_rfl) (by as_aux_lemma => kernel_rfl) (fun _ _ _ h => h) (Or.inl ⟨by rfl,?y313⟩) hH1 ?r313
    case y313 => (intro w hSw; (try dsimp only at hSw); go_simp; (try with_reducible rfl))
    try simp only [Act.put,List.getElem_toArray,List.getElem_cons_succ,List.getElem_cons_zero,List.setIfInBounds_toArray,List.set_cons_zero,List.set_cons_succ]
    refine' wpAnyH_take (i:=15) (oi:=_) (v:=?v314) rfl (by as_aux_lemma => kernel_rfl) (by as_aux_lemma => kernel_rfl) (by as_aux_lemma => kernel_rfl) (fun _ _ _ h => h) (Or.inl ⟨by rfl,?y314⟩) hH1 ?r314
    case y314 => (intro w hSw; (try dsimp only at hSw); go_simp; (try with_reducible rfl))
    try simp only [Act.put,List.getElem_toArray,List.getElem_cons_succ,List.getElem_cons_zero,List.setIfInBounds_toArray,List.set_cons_zero,List.set_cons_succ]
    refine' wpAnyH_take (i:=16) (oi:=_) (v:=?v315) rfl (by as_aux_lemma => kernel_rfl) (by as_aux_lemma => kernel_rfl) (by as_aux_lemma => kernel_rfl) (fun _ _ _ h => h) (Or.inl ⟨by rfl,?y315⟩) hH1 ?r315
    case y315 => (intro w hSw; (try dsimp only at hSw); go_simp; (try with_reducible rfl))
    try simp only [Act.put,List.getElem_toArray,List.getElem_cons_succ,List.getElem_cons_zero,List.setIfInBounds_toArray,List.set_cons_zero,List.set_cons_succ]
    refine' wpAnyH_take (i:=17) (oi:=_) (v:=?v316) rfl (by as_aux_lemma => kernel_rfl) (by as_aux_lemma => kernel_rfl) (by as_aux_lemma => kernel_rfl) (fun _ _ _ h => h) (Or.inl ⟨by rfl,?y316⟩) hH1 ?r316
    case y316 => (intro w hSw; (try dsimp only at hSw); go_simp; (try with_reducible rfl))
    try simp only [Act.put,List.getElem_toArray,List.getElem_cons_succ,List.getElem_cons_zero,List.setIfInBounds_toArray,List.set_cons_zero,List.set_cons_succ]
    refine' wpAnyH_take (i:=18) (oi:=_) (v:=?v317) rfl (by as_aux_lemma => kernel_rfl) (by as_aux_lemma => kernel_rfl) (by as_aux_lemma => kernel_rfl) (fun _ _ _ h => h) (Or.inl ⟨by rfl,?y317⟩) hH1 ?r317
    case y317 => (intro w hSw; (try dsimp only at hSw); go_simp; (try with_reducible rfl))
    try simp only [Act.put,List.getElem_toArray,List.getElem_cons_succ,List.getElem_cons_zero,List.setIfInBounds_toArray,List.set_cons_zero,List.set_cons_succ]
    refine' wpAnyH_take (i:=19) (oi:=_) (v:=?v318) rfl (by as_aux_lemma => kernel_rfl) (by as_aux_lemma => kernel_rfl) (by as_aux_lemma => kernel_rfl) (fun _ _ _ h => h) (Or.inl ⟨by rfl,?y318⟩) hH1 ?r318
    case y318 => (intro w hSw; (try dsimp only at hSw); go_simp; (try with_reducible rfl))
    try simp only [Act.put,List.getElem_toArray,List.getElem_cons_succ,List.getElem_cons_zero,List.setIfInBounds_toArray,List.set_cons_zero,List.set_cons_succ]
    refine' wpAnyH_take (i:=20) (oi:=_) (v:=?v319) rfl (by as_aux_lemma => kernel_rfl) (by as_aux_lemma => kernel_rfl) (by as_aux_lemma => kernel_rfl) (fun _ _ _ h => h) (Or.inl ⟨by rfl,?y319⟩) hH1 ?r319
    case y319 => (intro w hSw; (try dsimp only at hSw); go_simp; (try with_reducible rfl))
    try simp only [Act.put,List.getElem_toArray,List.getElem_cons_succ,List.getElem_cons_zero,List.setIfInBounds_toArray,List.set_cons_zero,List.set_cons_succ]
    refine' wpAnyH_take (i:=21) (oi:=_) (v:=?v320) rfl (by as_aux_lemma => kernel_rfl) (by as_aux_lemma => kernel_rfl) (by as_aux_lemma => kernel_rfl) (fun _ _ _ h => h) (Or.inl ⟨by rfl,?y320⟩) hH1 ?r320
    case y320 => (intro w hSw; (try dsimp only at hSw); go_simp; (try with_reducible rfl))
    try simp only [Act.put,List.getElem_toArray,List.getElem_cons_succ,List.getElem_cons_zero,List.setIfInBounds_toArray,List.set_cons_zero,List.set_cons_succ]
    refine' wpAnyH_take (i:=22) (oi:=_) (v:=?v321) rfl (by as_aux_lemma => kernel_rfl) (by as_aux_lemma => kernel_rfl) (by as_aux_lemma => kernel_rfl) (fun _ _ _ h => h) (Or.inl ⟨by rfl,?y321⟩) hH1 ?r321
    case y321 => (intro w hSw; (try dsimp only at hSw); go_simp; (try with_reducible rfl))
    try simp only [Act.put,List.getElem_toArray,List.getElem_cons_succ,List.getElem_cons_zero,List.setIfInBounds_toArray,List.set_cons_zero,List.set_cons_succ]
    refine' wpAnyH_take (i:=23) (oi:=_) (v:=?v322) rfl (by as_aux_lemma => kernel_rfl) (by as_aux_lemma => kernel_rfl) (by as_aux_lemma => kernel_rfl) (fun _ _ _ h => h) (Or.inl ⟨by rfl,?y322⟩) hH1 ?r322
    case y322 => (intro w hSw; (try dsimp only at hSw); go_simp; (try with_reducible rfl))
    try simp only [Act.put,List.getElem_toArray,List.getElem_cons_succ,List.getElem_cons_zero,List.setIfInBounds_toArray,List.set_cons_zero,List.set_cons_succ]
    refine' wpAnyH_take (i:=24) (oi:=_) (v:=?v323) rfl (by as_aux_lemma => kernel_rfl) (by as_aux_lemma => kernel_rfl) (by as_aux_lemma => kernel_rfl) (fun _ _ _ h => h) (Or.inl ⟨by rfl,?y323⟩) hH1 ?r323
    case y323 => (intro w hSw; (try dsimp only at hSw); go_simp; (try with_reducible rfl))
    try simp only [Act.put,List.getElem_toArray,List.getElem_cons_succ,List.getElem_cons_zero,List.setIfInBounds_toArray,List.set_cons_zero,List.set_cons_succ]
    refine' wpAnyH_take (i:=25) (oi:=_) (v:=undef) rfl (by as_aux_lemma => kernel_rfl) (by as_aux_lemma => kernel_rfl) (by as_aux_lemma => kernel_rfl) (fun _ _ _ h => h) (Or.inr ⟨by rfl,rfl⟩) hH1 ?_
    try simp only [Act.put,List.getElem_toArray,List.getElem_cons_succ,List.getElem_cons_zero,List.setIfInBounds_toArray,List.set_cons_zero,List.set_cons_succ]
    refine' wpAnyH_take (i:=26) (oi:=_) (v:=undef) rfl (by as_aux_lemma => kernel_rfl) (by as_aux_lemma => kernel_rfl) (by as_aux_lemma => kernel_rfl) (fun _ _ _ h => h) (Or.inr ⟨by rfl,rfl⟩) hH1 ?_
    try simp only [Act.put,List.getElem_toArray,List.getElem_cons_succ,List.getElem_cons_zero,List.setIfInBounds_toArray,List.set_cons_zero,List.set_cons_succ]
    refine' wpAnyH_take (i:=27) (oi:=_) (v:=undef) rfl (by as_aux_lemma => kernel_rfl) (by as_aux_lemma => kernel_rfl) (by as_aux_lemma => kernel_rfl) (fun _ _ _ h => h) (Or.inr ⟨by rfl,rfl⟩) hH1 ?_
    try simp only [Act.put,List.getElem_toArray,List.getElem_cons_succ,List.getElem_cons_zero,List.setIfInBounds_toArray,List.set_cons_zero,List.set_cons_succ]
    refine' wpAnyH_take (i:=28) (oi:=_) (v:=undef) rfl (by as_aux_lemma => kernel_rfl) (by as_aux_lemma => kernel_rfl) (by as_aux_lemma => kernel_rfl) (fun _ _ _ h => h) (Or.inr ⟨by rfl,rfl⟩) hH1 ?_
    try simp only [Act.put,List.getElem_toArray,List.getElem_cons_succ,List.getElem_cons_zero,List.setIfInBounds_toArray,List.set_cons_zero,List.set_cons_succ]
    refine' wpAnyH_take (i:=29) (oi:=_) (v:=undef) rfl (by as_aux_lemma => kernel_rfl) (by as_aux_lemma => kernel_rfl) (by as_aux_lemma => kernel_rfl) (fun _ _ _ h => h) (Or.inr ⟨by rfl,rfl⟩) hH1 ?_
    try simp only [Act.put,List.getElem_toArray,List.getElem_cons_succ,List.getElem_cons_zero,List.setIfInBounds_toArray,List.set_cons_zero,List.set_cons_succ]
    refine' wpAnyH_take (i:=30) (oi:=_) (v:=undef) rfl (by as_aux_lemma => kernel_rfl) (by as_aux_lemma => kernel_rfl) (by as_aux_lemma => kernel_rfl) (fun _ _ _ h => h) (Or.inr ⟨by rfl,rfl⟩) hH1 ?_
    try simp only [Act.put,List.getElem_toArray,List.getElem_cons_succ,List.getElem_cons_zero,List.setIfInBounds_toArray,List.set_cons_zero,List.set_cons_succ]
    refine' wpAnyH_take (i:=31) (oi:=_) (v:=undef) rfl (by as_aux_lemma => kernel_rfl) (by as_aux_lemma => kernel_rfl) (by as_aux_lemma => kernel_rfl) (fun _ _ _ h => h) (Or.inr ⟨by rfl,rfl⟩) hH1 ?_
    try simp only [Act.put,List.getElem_toArray,List.getElem_cons_succ,List.getElem_cons_zero,List.setIfInBounds_toArray,List.set_cons_zero,List.set_cons_succ]
    refine' wpAnyH_take (i:=32) (oi:=_) (v:=undef) rfl (by as_aux_lemma => kernel_rfl) (by as_aux_lemma => kernel_rfl) (by as_aux_lemma => kernel_rfl) (fun _ _ _ h => h) (Or.inr ⟨by rfl,rfl⟩) hH1 ?_
    try simp only [Act.put,List.getElem_toArray,List.getElem_cons_succ,List.getElem_cons_zero,List.setIfInBounds_toArray,List.set_cons_zero,List.set_cons_succ]
    refine' wpAnyH_take (i:=33) (oi:=_) (v:=undef) rfl (by as_aux_lemma => kernel_rfl) (by as_aux_lemma => kernel_rfl) (by as_aux_lemma => kernel_rfl) (fun _ _ _ h => h) (Or.inr ⟨by rfl,rfl⟩) hH1 ?_
    try simp only [Act.put,List.getElem_toArray,List.getElem_cons_succ,List.getElem_cons_zero,List.setIfInBounds_toArray,List.set_cons_zero,List.set_cons_succ]
    refine' wpAnyH_take (i:=34) (oi:=_) (v:=undef) rfl (by as_aux_lemma => kernel_rfl) (by as_aux_lemma => kernel_rfl) (by as_aux_lemma => kernel_rfl) (fun _ _ _ h => h) (Or.inr ⟨by rfl,rfl⟩) hH1 ?_
    try simp only [Act.put,List.getElem_toArray,List.getElem_cons_succ,List.getElem_cons_zero,List.setIfInBounds_toArray,List.set_cons_zero,List.set_cons_succ]
    refine' wpAnyH_take (i:=35) (oi:=_) (v:=undef) rfl (by as_aux_lemma => kernel_rfl) (by as_aux_lemma => kernel_rfl) (by as_aux_lemma => kernel_rfl) (fun _ _ _ h => h) (Or.inr ⟨by rfl,rfl⟩) hH1 ?_
    try simp only [Act.put,List.getElem_toArray,List.getElem_cons_succ,List.getElem_cons_zero,List.setIfInBounds_toArray,List.set_cons_zero,List.set_cons_succ]
    refine' wpAnyH_take (i:=36) (oi:=_) (v:=undef) rfl (by as_aux_lemma => kernel_rfl) (by as_aux_lemma => kernel_rfl) (by as_aux_lemma => kernel_rfl) (fun _ _ _ h => h) (Or.inr ⟨by rfl,rfl⟩) hH1 ?_
    try simp only [Act.put,List.getElem_toArray,List.getElem_cons_succ,List.getElem_cons_zero,List.setIfInBounds_toArray,List.set_cons_zero,List.set_cons_succ]
    refine' wpAnyH_take (i:=37) (oi:=_) (v:=?v336) rfl (by as_aux_lemma => kernel_rfl) (by as_aux_lemma => kernel_rfl) (by as_aux_lemma => kernel_rfl) (fun _ _ _ h => h) (Or.inl ⟨by rfl,?y336⟩) hH1 ?r336
    case y336 => (intro w hSw; (try dsimp only at hSw); go_simp; (try with_reducible rfl))
    try simp only [Act.put,List.getElem_toArray,List.getElem_cons_succ,List.getElem_cons_zero,List.setIfInBounds_toArray,List.set_cons_zero,List.set_cons_succ]
    refine' wpAnyH_take (i:=38) (oi:=_) (v:=?v337) rfl (by as_aux_lemma => kernel_rfl) (by as_aux_lemma => kernel_rfl) (by as_aux_lemma => kernel_rfl) (fun _ _ _ h => h) (Or.inl ⟨by rfl,?y337⟩) hH1 ?r337
    case y337 => (intro w hSw; (try dsimp only at hSw); go_simp; (try with_reducible rfl))
    try simp only [Act.put,List.getElem_toArray,List.getElem_cons_succ,List.getElem_cons_zero,List.setIfInBounds_toArray,List.set_cons_zero,List.set_cons_succ]
    refine wpAnyH_done (by as_aux_lemma => kernel_rfl) ?_ _
    have HBE:=hide (HBR.out.trans (hH1.1.mono HBR.out.size))
    clear hH1
    go_wp2_with fail
    go_roundw
    case rel => exact ⟨k + 1,by omega,by go_num,hide HBE.out⟩
    case measure => simp [intOf]; omega
  ·have g3 : ¬ (k : Int) + 1 < (N.length : Int):=by omega
   replace HBX:=hide (HBX.out.trans (HBR.out.mono HBX.out.size))
   replace HA:=hide (HA.out.keep HBR.out)
   replace HR4:=hide (HR4.out.keep HBR.out)
   replace HO4:=hide (HO4.out.keep HBR.out)
   replace HR5:=hide (HR5.out.keep HBR.out)
   replace HO5:=hide (HO5.out.keep HBR.out)
   replace HR6:=hide (HR6.out.keep HBR.out)
   clear HBR HNX
   have hwl : IntKind.i64.wrap (longC (meetC a b) + longC (minusC a b)) = longC (meetC a b) + longC (minusC a b):=by rw [IntKind.wrap_i64]; omega
   have HLE : Hid (∀ s,s = longC (meetC a b) + longC (minusC a b) -> (longC a == s) = true):=hide (fun s hs => by rw [beq_iff_eq,HLP.out,hs])
   have hlm : (meetC a b ++ minusC a b).length <= 40000:=by rw [List.length_append]; omega
   generalize meetC a b = MM at *
   generalize minusC a b = NN at *
   cases p1 <;> cases p2
   all_goals
    simp only [Bool.and_true,Bool.and_false,Bool.not_true,Bool.not_false,Bool.true_and,Bool.false_and] at HM1 HM2 HM3
    go_wp2_with fail
    refine (has_at A4 _ c4 MM (r : Int) y _ _ HR4.out rfl (by omega) HM1.out).mono ?_
    rintro _ u1 ⟨rfl,hb⟩
    replace HBX:=hide (andthen HBX.out hb)
    replace HA:=hide (HA.out.keep hb)
    replace HR4:=hide (HR4.out.keep hb)
    replace HO4:=hide (HO4.out.keep hb)
    replace HR5:=hide (HR5.out.keep hb)
    replace HO5:=hide (HO5.out.keep hb)
    replace HR6:=hide (HR6.out.keep hb)
    clear hb
    go_wp2_with fail
    refine (has_at A5 _ c5 NN (r : Int) y _ _ HR5.out rfl (by omega) HM2.out).mono ?_
    rintro _ u2 ⟨rfl,hb⟩
    replace HBX:=hide (andthen HBX.out hb)
    replace HA:=hide (HA.out.keep hb)
    replace HR4:=hide (HR4.out.keep hb)
    replace HO4:=hide (HO4.out.keep hb)
    replace HR5:=hide (HR5.out.keep hb)
    replace HO5:=hide (HO5.out.keep hb)
    replace HR6:=hide (HR6.out.keep hb)
    clear hb
    go_wp2_with fail
    refine (has_at A6 _ c6 N (r : Int) y _ _ HR6.out rfl (by omega) HM3.out).mono ?_
    rintro _ u3 ⟨rfl,hb⟩
    replace HBX:=hide (andthen HBX.out hb)
    replace HA:=hide (HA.out.keep hb)
    replace HR4:=hide (HR4.out.keep hb)
    replace HO4:=hide (HO4.out.keep hb)
    replace HR5:=hide (HR5.out.keep hb)
    replace HO5:=hide (HO5.out.keep hb)
    clear hb HR6
    go_wp2_with fail
    refine (Long_any A _ c a _ HA.out rfl (by omega)).mono ?_
    rintro _ u4 ⟨rfl,hb⟩
    replace HBX:=hide (andthen HBX.out hb)
    replace HA:=hide (HA.out.keep hb)
    replace HR4:=hide (HR4.out.keep hb)
    replace HO4:=hide (HO4.out.keep hb)
    replace HR5:=hide (HR5.out.keep hb)
    replace HO5:=hide (HO5.out.keep hb)
    clear hb
    go_wp2_with fail
    refine (Long_any A4 _ c4 MM _ HR4.out rfl (by omega)).mono ?_
    rintro _ u5 ⟨rfl,hb⟩
    replace HBX:=hide (andthen HBX.out hb)
    replace HA:=hide (HA.out.keep hb)
    replace HR4:=hide (HR4.out.keep hb)
    replace HR5:=hide (HR5.out.keep hb)
    clear hb
    go_wp2_with fail
    refine (Long_any A5 _ c5 NN _ HR5.out rfl (by omega)).mono ?_
    rintro _ u6 ⟨rfl,hb⟩
    replace HBX:=hide (andthen HBX.out hb)
    replace HA:=hide (HA.out.keep hb)
    replace HR4:=hide (HR4.out.keep hb)
    replace HR5:=hide (HR5.out.keep hb)
    clear hb
    have hq1:=HLE.out _ rfl
    have hmm : MM.length <= 1000000:=by omega
    have hnn : NN.length <= 1000000:=by omega
    go_wp2_with (at_builtin; (first
     | (refine wp_ownCW (B:=u6.heap.size) (l:=[]) (k:=MM) (by rfl) _ _ rfl rfl rfl rfl HZ4.out HR4.out (ownC_nil _ _) (Nat.le_refl _) (Nat.zero_le _) hmm ?_; intro v7 u7 hown7 hb7; rw [List.nil_append] at hown7; have hr57:=HR5.out.keep hb7)
     | (refine wp_ownCW (B:=u6.heap.size) (l:=MM) (k:=NN) (by rfl) _ _ rfl rfl rfl rfl HZ5.out hr57 hown7 hb7.size hmm hnn ?_; intro v8 u8 hown8 hb8)))
    obtain ⟨A8,c8,rfl,hr8⟩:=hown8.row
    replace HA:=hide (HA.out.keep (hb7.trans hb8))
    replace HBX:=hide (HBX.out.trans ((hb7.trans hb8).mono HBX.out.size))
    have HR8:=hide hr8
    clear hown7 hown8 hb7 hb8 hr8 hr57
    refine (Same_any A A8 _ _ c c8 a (MM ++ NN) _ HA.out HR8.out rfl rfl (by omega) hlm).mono ?_
    rw [HPN2.out]
    rintro _ u9 ⟨rfl,hb⟩
    replace HBX:=hide (andthen HBX.out hb)
    clear hb
    go_wp2_with fail
    go_ret
    exact ⟨rfl,HBX.out⟩
theorem mi12_any (A : Option Addr) (n c : Nat) (a : List C) (B : Option Addr) (m d : Nat) (b : List C) (x y : Int) (w : World) (h : RowC w A a) (he : n = a.length) (hn : a.length <= maxLen) (k : RowC w B b) (hf : m = b.length) (hm : b.length <= maxLen) (x0 : 0 <= x) (x1 : x <= 255) (y0 : 0 <= y) (y1 : y <= 65535) :
  Calls Tryz.prog 5 #[.slice A n c,.slice B m d,.int .u8 x,.int .u16 y] w fun e w' => e = .returned (.bool true) /\ Below w.heap.size w w':=by
 subst he hf
 by_cases g1 : 30 < a.length
 ·exact mi12_few A B c d a b x y w h k hn hm (Or.inl g1)
 ·by_cases g2 : 30 < b.length
  ·exact mi12_few A B c d a b x y w h k hn hm (Or.inr ⟨g1,g2⟩)
  ·exact mi12_yes A B c d a b x y w h k (by omega) (by omega) x0 x1 y0 y1
end Go.Proofs.YtgihekokbgggcaaGreat.S2

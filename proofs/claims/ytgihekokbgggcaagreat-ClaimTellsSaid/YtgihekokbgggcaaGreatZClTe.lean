/- ClaimTells. Written by recipes/cl8.py. -/
import Derived.Test.YtgihekokbgggcaaGreatZClQ
set_option maxHeartbeats 8000000
set_option maxRecDepth 1000000
namespace Go.Proofs.YtgihekokbgggcaaGreat.S2
open Go.RowKit Spn Cl
theorem te12_few (r f t q g u : Int) (A B : Option Addr) (c d : Nat) (a b : List C) (w : World) (h : RowC w A a) (k : RowC w B b) (hn : a.length <= maxLen) (hm : b.length <= maxLen) (hf : 30 < a.length ∨ ¬ 30 < a.length /\ 30 < b.length) :
  Calls Tryz.prog 3 #[.agg #[.int .i64 r,.int .i64 f,.int .i64 t],.agg #[.int .i64 q,.int .i64 g,.int .i64 u],.slice A a.length c,.slice B b.length d] w fun e w' => e = .returned (.bool true) /\ Below w.heap.size w w':=by
 have HBX:=hide (andthen (more (start w) (.cells #[.int .i64 r,.int .i64 f,.int .i64 t] 25)) (more (start _) (.cells #[.int .i64 q,.int .i64 g,.int .i64 u] 25)))
 have HC6:=hide (two6 w r f t q g u _ rfl)
 have HA:=hide (h.keep HBX.out)
 have HB:=hide (k.keep HBX.out)
 clear h k
 go_enter Tryz.func3,Tryz.ntmps3
 go_wp2_with fail
 generalize (w.alloc (.cells #[.int .i64 r,.int .i64 f,.int .i64 t] 25)).alloc (.cells #[.int .i64 q,.int .i64 g,.int .i64 u] 25) = W1 at *
 refine (known_any _).mono ?_
 rintro _ w1 ⟨rfl,hb⟩
 replace HBX:=hide (andthen HBX.out hb)
 replace HA:=hide (HA.out.keep hb)
 replace HB:=hide (HB.out.keep hb)
 have HS1:=hide (keepC6 hb HC6.out)
 clear hb
 go_wp2_with fail
 rcases hf with hf | ⟨hf,hg⟩
 ·refine (few_at A _ c false _ hn (decide_eq_false (by omega))).mono ?_
  rintro _ w2 ⟨rfl,rfl⟩
  go_wp2_with fail
  go_ret
  exact ⟨rfl,HBX.out⟩
 ·refine (few_at A _ c true _ hn (decide_eq_true (by omega))).mono ?_
  rintro _ w2 ⟨rfl,rfl⟩
  go_wp2_with fail
  refine (few_at B _ d false _ hm (decide_eq_false (by omega))).mono ?_
  rintro _ w2 ⟨rfl,rfl⟩
  go_wp2_with fail
  go_ret
  exact ⟨rfl,HBX.out⟩
set_option linter.unusedSimpArgs false in
theorem te12_yes (r f t q g u : Int) (A B : Option Addr) (c d : Nat) (a b : List C) (w : World) (h : RowC w A a) (k : RowC w B b) (hn : a.length <= 30) (hm : b.length <= 30) :
  Calls Tryz.prog 3 #[.agg #[.int .i64 r,.int .i64 f,.int .i64 t],.agg #[.int .i64 q,.int .i64 g,.int .i64 u],.slice A a.length c,.slice B b.length d] w fun e w' => e = .returned (.bool true) /\ Below w.heap.size w w':=by
 have hl1:=neatC_len a
 have hl2:=neatC_len b
 have hl3:=meetC_len a b
 have hl4:=minusC_len a b
 obtain ⟨bi,hbi⟩ : ∃ x,okC (r,(f,t)) = x:=⟨_,rfl⟩
 have HI:=hide hbi
 obtain ⟨bl,hbl⟩ : ∃ x,lessC (r,(f,t)) (q,(g,u)) = x:=⟨_,rfl⟩
 have HLS:=hide hbl
 obtain ⟨bs,hbs⟩ : ∃ x,decide (neatC a = neatC b) = x:=⟨_,rfl⟩
 have HSM:=hide hbs
 obtain ⟨lg,hlg⟩ : ∃ x,longC a = x:=⟨_,rfl⟩
 have HLG:=hide hlg
 clear hbi hbl hbs hlg
 have HBX:=hide (andthen (more (start w) (.cells #[.int .i64 r,.int .i64 f,.int .i64 t] 25)) (more (start _) (.cells #[.int .i64 q,.int .i64 g,.int .i64 u] 25)))
 have HC6:=hide (two6 w r f t q g u _ rfl)
 have HA:=hide (h.keep HBX.out)
 have HB:=hide (k.keep HBX.out)
 clear h k
 go_enter Tryz.func3,Tryz.ntmps3
 go_wp2_with fail
 generalize (w.alloc (.cells #[.int .i64 r,.int .i64 f,.int .i64 t] 25)).alloc (.cells #[.int .i64 q,.int .i64 g,.int .i64 u] 25) = W1 at *
 refine (known_any _).mono ?_
 rintro _ w1 ⟨rfl,hb⟩
 replace HBX:=hide (andthen HBX.out hb)
 replace HA:=hide (HA.out.keep hb)
 replace HB:=hide (HB.out.keep hb)
 have HS1:=hide (keepC6 hb HC6.out)
 clear hb
 go_wp2_with fail
 refine (few_at A _ c true _ (by unfold maxLen; omega) (decide_eq_true (by omega))).mono ?_
 rintro _ w2 ⟨rfl,rfl⟩
 go_wp2_with fail
 refine (few_at B _ d true _ (by unfold maxLen; omega) (decide_eq_true (by omega))).mono ?_
 rintro _ w2 ⟨rfl,rfl⟩
 go_wp2_with fail
 refine (R.Neat_any A _ c a _ HA.out rfl (by omega)).mono ?_
 rintro _ w3 ⟨v7,rfl,ho,hb⟩
 obtain ⟨A7,c7,rfl,hr⟩:=ho.row
 have HR7:=hide hr
 replace HBX:=hide (andthen HBX.out hb)
 replace HA:=hide (HA.out.keep hb)
 replace HB:=hide (HB.out.keep hb)
 replace HS1:=hide (keepC6 hb HS1.out)
 clear hb ho hr
 go_wp2_with fail
 refine (R.Neat_any B _ d b _ HB.out rfl (by omega)).mono ?_
 rintro _ w4 ⟨v8,rfl,ho,hb⟩
 obtain ⟨A8,c8,rfl,hr⟩:=ho.row
 have HR8:=hide hr
 replace HBX:=hide (andthen HBX.out hb)
 replace HA:=hide (HA.out.keep hb)
 replace HB:=hide (HB.out.keep hb)
 replace HR7:=hide (HR7.out.keep hb)
 replace HS1:=hide (keepC6 hb HS1.out)
 clear hb ho hr
 go_wp2_with fail
 refine (R.equalC_any A7 A8 _ _ c7 c8 (neatC a) (neatC b) _ HR7.out HR8.out rfl rfl (by omega) (by omega)).mono ?_
 rw [HSM.out]
 rintro _ W ⟨rfl,hb⟩
 replace HBX:=hide (andthen HBX.out hb)
 replace HA:=hide (HA.out.keep hb)
 replace HB:=hide (HB.out.keep hb)
 have HS0:=hide (And.intro (start W) (keepC6 hb HS1.out))
 clear hb HR7 HR8 HS1 HC6
 go_wp2_with fail
 refine wp_region_held_drew (S:=fun w' => Below W.heap.size W w' /\ w'.cell? ⟨w.heap.size,0,none⟩ = some (.int .i64 r) /\ w'.cell? ⟨w.heap.size,1,none⟩ = some (.int .i64 f) /\ w'.cell? ⟨w.heap.size,2,none⟩ = some (.int .i64 t) /\ w'.cell? ⟨w.heap.size + 1,0,none⟩ = some (.int .i64 q) /\ w'.cell? ⟨w.heap.size + 1,1,none⟩ = some (.int .i64 g) /\ w'.cell? ⟨w.heap.size + 1,2,none⟩ = some (.int .i64 u)) (by kernel_rfl) ?_ (fun hH0 => ?_)
 ·exact sK_keep (start W).drew HS0.out
 refine' wpAnyH_take (i:=0) (oi:=_) (v:=?v0) rfl (by as_aux_lemma => kernel_rfl) (by as_aux_lemma => kernel_rfl) (by as_aux_lemma => kernel_rfl) (fun _ _ _ h => h) (Or.inl ⟨by rfl,?y0⟩) hH0 ?r0
 case y0 => (intro w hSw; (try dsimp only at hSw); go_simp; (try with_reducible rfl))
 try simp only [Act.put,List.getElem_toArray,List.getElem_cons_succ,List.getElem_cons_zero,List.setIfInBounds_toArray,List.set_cons_zero,List.set_cons_succ]
 refine' wpAnyH_take (i:=2) (oi:=_) (v:=?v1) rfl (by as_aux_lemma => kernel_rfl) (by as_aux_lemma => kernel_rfl) (by as_aux_lemma => kernel_rfl) (fun _ _ _ h => h) (Or.inl ⟨by rfl,?y1⟩) hH0 ?r1
 case y1 => (intro w hSw; (try dsimp only at hSw); go_simp; (try with_reducible rfl))
 try simp only [Act.put,List.getElem_toArray,List.getElem_cons_succ,List.getElem_cons_zero,List.setIfInBounds_toArray,List.set_cons_zero,List.set_cons_succ]
 refine wpAnyH_ready (rs:=[1]) (by as_aux_lemma => kernel_rfl) (by simp) ?_
 refine AllReadyH.cons (o:=_) rfl (fun K hK => ?_) AllReadyH.nil
 go_simp
 refine (cIs_at r f t bi _ HI.out).mono ?_
 rintro _ wz ⟨rfl,hb⟩
 refine hK.out _ _ (sK_keep hb hH0) (fun hN => ?_)
 clear hK K hH0
 have hH1:=hN
 clear hN
 try simp only [Act.put,List.getElem_toArray,List.getElem_cons_succ,List.getElem_cons_zero,List.setIfInBounds_toArray,List.set_cons_zero,List.set_cons_succ]
 refine wpAnyH_ready (rs:=[3]) (by as_aux_lemma => kernel_rfl) (by simp) ?_
 refine AllReadyH.cons (o:=_) rfl (fun K hK => ?_) AllReadyH.nil
 go_simp
 refine (R.cIs_at r f t bi _ HI.out).mono ?_
 rintro _ wz ⟨rfl,hb⟩
 refine hK.out _ _ (sK_keep hb hH1) (fun hN => ?_)
 clear hK K hH1
 have hH2:=hN
 clear hN
 try simp only [Act.put,List.getElem_toArray,List.getElem_cons_succ,List.getElem_cons_zero,List.setIfInBounds_toArray,List.set_cons_zero,List.set_cons_succ]
 refine' wpAnyH_take (i:=4) (oi:=_) (v:=?v2) rfl (by as_aux_lemma => kernel_rfl) (by as_aux_lemma => kernel_rfl) (by as_aux_lemma => kernel_rfl) (fun _ _ _ h => h) (Or.inl ⟨by rfl,?y2⟩) hH2 ?r2
 case y2 => (intro w hSw; (try dsimp only at hSw); go_simp; (try with_reducible rfl))
 try simp only [Act.put,List.getElem_toArray,List.getElem_cons_succ,List.getElem_cons_zero,List.setIfInBounds_toArray,List.set_cons_zero,List.set_cons_succ]
 refine' wpAnyH_take (i:=5) (oi:=_) (v:=?v3) rfl (by as_aux_lemma => kernel_rfl) (by as_aux_lemma => kernel_rfl) (by as_aux_lemma => kernel_rfl) (fun _ _ _ h => h) (Or.inl ⟨by rfl,?y3⟩) hH2 ?r3
 case y3 => (intro w hSw; (try dsimp only at hSw); go_simp; (try with_reducible rfl))
 try simp only [Act.put,List.getElem_toArray,List.getElem_cons_succ,List.getElem_cons_zero,List.setIfInBounds_toArray,List.set_cons_zero,List.set_cons_succ]
 refine' wpAnyH_take (i:=6) (oi:=_) (v:=?v4) rfl (by as_aux_lemma => kernel_rfl) (by as_aux_lemma => kernel_rfl) (by as_aux_lemma => kernel_rfl) (fun _ _ _ h => h) (Or.inl ⟨by rfl,?y4⟩) hH2 ?r4
 case y4 => (intro w hSw; (try dsimp only at hSw); go_simp; (try with_reducible rfl))
 try simp only [Act.put,List.getElem_toArray,List.getElem_cons_succ,List.getElem_cons_zero,List.setIfInBounds_toArray,List.set_cons_zero,List.set_cons_succ]
 refine' wpAnyH_take (i:=7) (oi:=_) (v:=?v5) rfl (by as_aux_lemma => kernel_rfl) (by as_aux_lemma => kernel_rfl) (by as_aux_lemma => kernel_rfl) (fun _ _ _ h => h) (Or.inl ⟨by rfl,?y5⟩) hH2 ?r5
 case y5 => (intro w hSw; (try dsimp only at hSw); go_simp; (try with_reducible rfl))
 try simp only [Act.put,List.getElem_toArray,List.getElem_cons_succ,List.getElem_cons_zero,List.setIfInBounds_toArray,List.set_cons_zero,List.set_cons_succ]
 refine' wpAnyH_take (i:=9) (oi:=_) (v:=?v6) rfl (by as_aux_lemma => kernel_rfl) (by as_aux_lemma => kernel_rfl) (by as_aux_lemma => kernel_rfl) (fun _ _ _ h => h) (Or.inl ⟨by rfl,?y6⟩) hH2 ?r6
 case y6 => (intro w hSw; (try dsimp only at hSw); go_simp; (try with_reducible rfl))
 try simp only [Act.put,List.getElem_toArray,List.getElem_cons_succ,List.getElem_cons_zero,List.setIfInBounds_toArray,List.set_cons_zero,List.set_cons_succ]
 refine' wpAnyH_take (i:=10) (oi:=_) (v:=?v7) rfl (by as_aux_lemma => kernel_rfl) (by as_aux_lemma => kernel_rfl) (by as_aux_lemma => kernel_rfl) (fun _ _ _ h => h) (Or.inl ⟨by rfl,?y7⟩) hH2 ?r7
 case y7 => (intro w hSw; (try dsimp only at hSw); go_simp; (try with_reducible rfl))
 try simp only [Act.put,List.getElem_toArray,List.getElem_cons_succ,List.getElem_cons_zero,List.setIfInBounds_toArray,List.set_cons_zero,List.set_cons_succ]
 refine wpAnyH_ready (rs:=[8]) (by as_aux_lemma => kernel_rfl) (by simp) ?_
 refine AllReadyH.cons (o:=_) rfl (fun K hK => ?_) AllReadyH.nil
 go_simp
 refine (cLess_any r f t q g u _).mono ?_
 rw [HLS.out]
 rintro _ wz ⟨rfl,hb⟩
 refine hK.out _ _ (sK_keep hb hH2) (fun hN => ?_)
 clear hK K hH2
 have hH3:=hN
 clear hN
 try simp only [Act.put,List.getElem_toArray,List.getElem_cons_succ,List.getElem_cons_zero,List.setIfInBounds_toArray,List.set_cons_zero,List.set_cons_succ]
 refine wpAnyH_ready (rs:=[11]) (by as_aux_lemma => kernel_rfl) (by simp) ?_
 refine AllReadyH.cons (o:=_) rfl (fun K hK => ?_) AllReadyH.nil
 go_simp
 refine (R.cLess_any r f t q g u _).mono ?_
 rw [HLS.out]
 rintro _ wz ⟨rfl,hb⟩
 refine hK.out _ _ (sK_keep hb hH3) (fun hN => ?_)
 clear hK K hH3
 have hH4:=hN
 clear hN
 try simp only [Act.put,List.getElem_toArray,List.getElem_cons_succ,List.getElem_cons_zero,List.setIfInBounds_toArray,List.set_cons_zero,List.set_cons_succ]
 refine' wpAnyH_take (i:=12) (oi:=_) (v:=?v8) rfl (by as_aux_lemma => kernel_rfl) (by as_aux_lemma => kernel_rfl) (by as_aux_lemma => kernel_rfl) (fun _ _ _ h => h) (Or.inl ⟨by rfl,?y8⟩) hH4 ?r8
 case y8 => (intro w hSw; (try dsimp only at hSw); go_simp; (try with_reducible rfl))
 try simp only [Act.put,List.getElem_toArray,List.getElem_cons_succ,List.getElem_cons_zero,List.setIfInBounds_toArray,List.set_cons_zero,List.set_cons_succ]
 refine' wpAnyH_take (i:=13) (oi:=_) (v:=?v9) rfl (by as_aux_lemma => kernel_rfl) (by as_aux_lemma => kernel_rfl) (by as_aux_lemma => kernel_rfl) (fun _ _ _ h => h) (Or.inl ⟨by rfl,?y9⟩) hH4 ?r9
 case y9 => (intro w hSw; (try dsimp only at hSw); go_simp; (try with_reducible rfl))
 try simp only [Act.put,List.getElem_toArray,List.getElem_cons_succ,List.getElem_cons_zero,List.setIfInBounds_toArray,List.set_cons_zero,List.set_cons_succ]
 refine' wpAnyH_take (i:=14) (oi:=_) (v:=?v10) rfl (by as_aux_lemma => kernel_rfl) (by as_aux_lemma => kernel_rfl) (by as_aux_lemma => kernel_rfl) (fun _ _ _ h => h) (Or.inl ⟨by rfl,?y10⟩) hH4 ?r10
 case y10 => (intro w hSw; (try dsimp only at hSw); go_simp; (try with_reducible rfl))
 try simp only [Act.put,List.getElem_toArray,List.getElem_cons_succ,List.getElem_cons_zero,List.setIfInBounds_toArray,List.set_cons_zero,List.set_cons_succ]
 refine' wpAnyH_take (i:=15) (oi:=_) (v:=?v11) rfl (by as_aux_lemma => kernel_rfl) (by as_aux_lemma => kernel_rfl) (by as_aux_lemma => kernel_rfl) (fun _ _ _ h => h) (Or.inl ⟨by rfl,?y11⟩) hH4 ?r11
 case y11 => (intro w hSw; (try dsimp only at hSw); go_simp; (try with_reducible rfl))
 try simp only [Act.put,List.getElem_toArray,List.getElem_cons_succ,List.getElem_cons_zero,List.setIfInBounds_toArray,List.set_cons_zero,List.set_cons_succ]
 refine' wpAnyH_take (i:=17) (oi:=_) (v:=?v12) rfl (by as_aux_lemma => kernel_rfl) (by as_aux_lemma => kernel_rfl) (by as_aux_lemma => kernel_rfl) (fun _ _ _ h => h) (Or.inl ⟨by rfl,?y12⟩) hH4 ?r12
 case y12 => (intro w hSw; (try dsimp only at hSw); go_simp; (try with_reducible rfl))
 try simp only [Act.put,List.getElem_toArray,List.getElem_cons_succ,List.getElem_cons_zero,List.setIfInBounds_toArray,List.set_cons_zero,List.set_cons_succ]
 refine wpAnyH_ready (rs:=[16]) (by as_aux_lemma => kernel_rfl) (by simp) ?_
 refine AllReadyH.cons (o:=_) rfl (fun K hK => ?_) AllReadyH.nil
 go_simp
 refine (Neat_any A _ c a _ (HA.out.keep hH4.1) rfl (by omega)).mono ?_
 rintro _ wz ⟨v1,rfl,ho,hb⟩
 obtain ⟨A1,c1,rfl,hr⟩:=ho.row
 have HR1:=hide hr
 clear ho hr
 refine hK.out _ _ (sK_keep hb hH4) (fun hN => ?_)
 clear hK K hH4
 have hH5:=hN
 clear hN
 try simp only [Act.put,List.getElem_toArray,List.getElem_cons_succ,List.getElem_cons_zero,List.setIfInBounds_toArray,List.set_cons_zero,List.set_cons_succ]
 refine wpAnyH_ready (rs:=[18]) (by as_aux_lemma => kernel_rfl) (by simp) ?_
 refine AllReadyH.cons (o:=_) rfl (fun K hK => ?_) AllReadyH.nil
 go_simp
 refine (R.Neat_any A _ c a _ (HA.out.keep hH5.1) rfl (by omega)).mono ?_
 rintro _ wz ⟨v2,rfl,ho,hb⟩
 obtain ⟨A2,c2,rfl,hr⟩:=ho.row
 have HR2:=hide hr
 clear ho hr
 replace HR1:=hide (HR1.out.keep hb)
 refine hK.out _ _ (sK_keep hb hH5) (fun hN => ?_)
 clear hK K hH5
 have hH6:=hN
 clear hN
 try simp only [Act.put,List.getElem_toArray,List.getElem_cons_succ,List.getElem_cons_zero,List.setIfInBounds_toArray,List.set_cons_zero,List.set_cons_succ]
 refine wpAnyH_ready (rs:=[19]) (by as_aux_lemma => kernel_rfl) (by simp) ?_
 refine AllReadyH.cons (o:=_) rfl (fun K hK => ?_) AllReadyH.nil
 go_simp
 refine (R.equalC_any A1 A2 _ _ c1 c2 (neatC a) (neatC a) _ HR1.out HR2.out rfl rfl (by omega) (by omega)).mono ?_
 rw [decide_eq_true rfl]
 rintro _ wz ⟨rfl,hb⟩
 refine hK.out _ _ (sK_keep hb hH6) (fun hN => ?_)
 clear hK K hH6
 have hH7:=hN
 clear hN
 try simp only [Act.put,List.getElem_toArray,List.getElem_cons_succ,List.getElem_cons_zero,List.setIfInBounds_toArray,List.set_cons_zero,List.set_cons_succ]
 refine' wpAnyH_take (i:=20) (oi:=_) (v:=?v13) rfl (by as_aux_lemma => kernel_rfl) (by as_aux_lemma => kernel_rfl) (by as_aux_lemma => kernel_rfl) (fun _ _ _ h => h) (Or.inl ⟨by rfl,?y13⟩) hH7 ?r13
 case y13 => (intro w hSw; (try dsimp only at hSw); go_simp; (try with_reducible rfl))
 try simp only [Act.put,List.getElem_toArray,List.getElem_cons_succ,List.getElem_cons_zero,List.setIfInBounds_toArray,List.set_cons_zero,List.set_cons_succ]
 refine' wpAnyH_take (i:=21) (oi:=_) (v:=?v14) rfl (by as_aux_lemma => kernel_rfl) (by as_aux_lemma => kernel_rfl) (by as_aux_lemma => kernel_rfl) (fun _ _ _ h => h) (Or.inl ⟨by rfl,?y14⟩) hH7 ?r14
 case y14 => (intro w hSw; (try dsimp only at hSw); go_simp; (try with_reducible rfl))
 try simp only [Act.put,List.getElem_toArray,List.getElem_cons_succ,List.getElem_cons_zero,List.setIfInBounds_toArray,List.set_cons_zero,List.set_cons_succ]
 refine' wpAnyH_take (i:=22) (oi:=_) (v:=?v15) rfl (by as_aux_lemma => kernel_rfl) (by as_aux_lemma => kernel_rfl) (by as_aux_lemma => kernel_rfl) (fun _ _ _ h => h) (Or.inl ⟨by rfl,?y15⟩) hH7 ?r15
 case y15 => (intro w hSw; (try dsimp only at hSw); go_simp; (try with_reducible rfl))
 try simp only [Act.put,List.getElem_toArray,List.getElem_cons_succ,List.getElem_cons_zero,List.setIfInBounds_toArray,List.set_cons_zero,List.set_cons_succ]
 refine' wpAnyH_take (i:=23) (oi:=_) (v:=?v16) rfl (by as_aux_lemma => kernel_rfl) (by as_aux_lemma => kernel_rfl) (by as_aux_lemma => kernel_rfl) (fun _ _ _ h => h) (Or.inl ⟨by rfl,?y16⟩) hH7 ?r16
 case y16 => (intro w hSw; (try dsimp only at hSw); go_simp; (try with_reducible rfl))
 try simp only [Act.put,List.getElem_toArray,List.getElem_cons_succ,List.getElem_cons_zero,List.setIfInBounds_toArray,List.set_cons_zero,List.set_cons_succ]
 refine' wpAnyH_take (i:=25) (oi:=_) (v:=?v17) rfl (by as_aux_lemma => kernel_rfl) (by as_aux_lemma => kernel_rfl) (by as_aux_lemma => kernel_rfl) (fun _ _ _ h => h) (Or.inl ⟨by rfl,?y17⟩) hH7 ?r17
 case y17 => (intro w hSw; (try dsimp only at hSw); go_simp; (try with_reducible rfl))
 try simp only [Act.put,List.getElem_toArray,List.getElem_cons_succ,List.getElem_cons_zero,List.setIfInBounds_toArray,List.set_cons_zero,List.set_cons_succ]
 refine' wpAnyH_take (i:=26) (oi:=_) (v:=?v18) rfl (by as_aux_lemma => kernel_rfl) (by as_aux_lemma => kernel_rfl) (by as_aux_lemma => kernel_rfl) (fun _ _ _ h => h) (Or.inl ⟨by rfl,?y18⟩) hH7 ?r18
 case y18 => (intro w hSw; (try dsimp only at hSw); go_simp; (try with_reducible rfl))
 try simp only [Act.put,List.getElem_toArray,List.getElem_cons_succ,List.getElem_cons_zero,List.setIfInBounds_toArray,List.set_cons_zero,List.set_cons_succ]
 refine wpAnyH_ready (rs:=[24]) (by as_aux_lemma => kernel_rfl) (by simp) ?_
 refine AllReadyH.cons (o:=_) rfl (fun K hK => ?_) AllReadyH.nil
 go_simp
 refine (Meet_any A B _ _ c d a b _ (HA.out.keep hH7.1) (HB.out.keep hH7.1) rfl rfl (by omega) (by omega)).mono ?_
 rintro _ wz ⟨v3,rfl,ho,hb⟩
 obtain ⟨A3,c3,rfl,hr⟩:=ho.row
 have HR3:=hide hr
 clear ho hr
 refine hK.out _ _ (sK_keep hb hH7) (fun hN => ?_)
 clear hK K hH7
 have hH8:=hN
 clear hN
 try simp only [Act.put,List.getElem_toArray,List.getElem_cons_succ,List.getElem_cons_zero,List.setIfInBounds_toArray,List.set_cons_zero,List.set_cons_succ]
 refine wpAnyH_ready (rs:=[27]) (by as_aux_lemma => kernel_rfl) (by simp) ?_
 refine AllReadyH.cons (o:=_) rfl (fun K hK => ?_) AllReadyH.nil
 go_simp
 refine (R.Meet_any A B _ _ c d a b _ (HA.out.keep hH8.1) (HB.out.keep hH8.1) rfl rfl (by omega) (by omega)).mono ?_
 rintro _ wz ⟨v4,rfl,ho,hb⟩
 obtain ⟨A4,c4,rfl,hr⟩:=ho.row
 have HR4:=hide hr
 clear ho hr
 replace HR3:=hide (HR3.out.keep hb)
 refine hK.out _ _ (sK_keep hb hH8) (fun hN => ?_)
 clear hK K hH8
 have hH9:=hN
 clear hN
 try simp only [Act.put,List.getElem_toArray,List.getElem_cons_succ,List.getElem_cons_zero,List.setIfInBounds_toArray,List.set_cons_zero,List.set_cons_succ]
 refine wpAnyH_ready (rs:=[28]) (by as_aux_lemma => kernel_rfl) (by simp) ?_
 refine AllReadyH.cons (o:=_) rfl (fun K hK => ?_) AllReadyH.nil
 go_simp
 refine (R.equalC_any A3 A4 _ _ c3 c4 (meetC a b) (meetC a b) _ HR3.out HR4.out rfl rfl (by omega) (by omega)).mono ?_
 rw [decide_eq_true rfl]
 rintro _ wz ⟨rfl,hb⟩
 refine hK.out _ _ (sK_keep hb hH9) (fun hN => ?_)
 clear hK K hH9
 have hH10:=hN
 clear hN
 try simp only [Act.put,List.getElem_toArray,List.getElem_cons_succ,List.getElem_cons_zero,List.setIfInBounds_toArray,List.set_cons_zero,List.set_cons_succ]
 refine' wpAnyH_take (i:=29) (oi:=_) (v:=?v19) rfl (by as_aux_lemma => kernel_rfl) (by as_aux_lemma => kernel_rfl) (by as_aux_lemma => kernel_rfl) (fun _ _ _ h => h) (Or.inl ⟨by rfl,?y19⟩) hH10 ?r19
 case y19 => (intro w hSw; (try dsimp only at hSw); go_simp; (try with_reducible rfl))
 try simp only [Act.put,List.getElem_toArray,List.getElem_cons_succ,List.getElem_cons_zero,List.setIfInBounds_toArray,List.set_cons_zero,List.set_cons_succ]
 refine' wpAnyH_take (i:=30) (oi:=_) (v:=?v20) rfl (by as_aux_lemma => kernel_rfl) (by as_aux_lemma => kernel_rfl) (by as_aux_lemma => kernel_rfl) (fun _ _ _ h => h) (Or.inl ⟨by rfl,?y20⟩) hH10 ?r20
 case y20 => (intro w hSw; (try dsimp only at hSw); go_simp; (try with_reducible rfl))
 try simp only [Act.put,List.getElem_toArray,List.getElem_cons_succ,List.getElem_cons_zero,List.setIfInBounds_toArray,List.set_cons_zero,List.set_cons_succ]
 refine' wpAnyH_take (i:=31) (oi:=_) (v:=?v21) rfl (by as_aux_lemma => kernel_rfl) (by as_aux_lemma => kernel_rfl) (by as_aux_lemma => kernel_rfl) (fun _ _ _ h => h) (Or.inl ⟨by rfl,?y21⟩) hH10 ?r21
 case y21 => (intro w hSw; (try dsimp only at hSw); go_simp; (try with_reducible rfl))
 try simp only [Act.put,List.getElem_toArray,List.getElem_cons_succ,List.getElem_cons_zero,List.setIfInBounds_toArray,List.set_cons_zero,List.set_cons_succ]
 refine' wpAnyH_take (i:=32) (oi:=_) (v:=?v22) rfl (by as_aux_lemma => kernel_rfl) (by as_aux_lemma => kernel_rfl) (by as_aux_lemma => kernel_rfl) (fun _ _ _ h => h) (Or.inl ⟨by rfl,?y22⟩) hH10 ?r22
 case y22 => (intro w hSw; (try dsimp only at hSw); go_simp; (try with_reducible rfl))
 try simp only [Act.put,List.getElem_toArray,List.getElem_cons_succ,List.getElem_cons_zero,List.setIfInBounds_toArray,List.set_cons_zero,List.set_cons_succ]
 refine' wpAnyH_take (i:=34) (oi:=_) (v:=?v23) rfl (by as_aux_lemma => kernel_rfl) (by as_aux_lemma => kernel_rfl) (by as_aux_lemma => kernel_rfl) (fun _ _ _ h => h) (Or.inl ⟨by rfl,?y23⟩) hH10 ?r23
 case y23 => (intro w hSw; (try dsimp only at hSw); go_simp; (try with_reducible rfl))
 try simp only [Act.put,List.getElem_toArray,List.getElem_cons_succ,List.getElem_cons_zero,List.setIfInBounds_toArray,List.set_cons_zero,List.set_cons_succ]
 refine' wpAnyH_take (i:=35) (oi:=_) (v:=?v24) rfl (by as_aux_lemma => kernel_rfl) (by as_aux_lemma => kernel_rfl) (by as_aux_lemma => kernel_rfl) (fun _ _ _ h => h) (Or.inl ⟨by rfl,?y24⟩) hH10 ?r24
 case y24 => (intro w hSw; (try dsimp only at hSw); go_simp; (try with_reducible rfl))
 try simp only [Act.put,List.getElem_toArray,List.getElem_cons_succ,List.getElem_cons_zero,List.setIfInBounds_toArray,List.set_cons_zero,List.set_cons_succ]
 refine wpAnyH_ready (rs:=[33]) (by as_aux_lemma => kernel_rfl) (by simp) ?_
 refine AllReadyH.cons (o:=_) rfl (fun K hK => ?_) AllReadyH.nil
 go_simp
 refine (Minus_any A B _ _ c d a b _ (HA.out.keep hH10.1) (HB.out.keep hH10.1) rfl rfl (by omega) (by omega)).mono ?_
 rintro _ wz ⟨v5,rfl,ho,hb⟩
 obtain ⟨A5,c5,rfl,hr⟩:=ho.row
 have HR5:=hide hr
 clear ho hr
 refine hK.out _ _ (sK_keep hb hH10) (fun hN => ?_)
 clear hK K hH10
 have hH11:=hN
 clear hN
 try simp only [Act.put,List.getElem_toArray,List.getElem_cons_succ,List.getElem_cons_zero,List.setIfInBounds_toArray,List.set_cons_zero,List.set_cons_succ]
 refine wpAnyH_ready (rs:=[36]) (by as_aux_lemma => kernel_rfl) (by simp) ?_
 refine AllReadyH.cons (o:=_) rfl (fun K hK => ?_) AllReadyH.nil
 go_simp
 refine (R.Minus_any A B _ _ c d a b _ (HA.out.keep hH11.1) (HB.out.keep hH11.1) rfl rfl (by omega) (by omega)).mono ?_
 rintro _ wz ⟨v6,rfl,ho,hb⟩
 obtain ⟨A6,c6,rfl,hr⟩:=ho.row
 have HR6:=hide hr
 clear ho hr
 replace HR5:=hide (HR5.out.keep hb)
 refine hK.out _ _ (sK_keep hb hH11) (fun hN => ?_)
 clear hK K hH11
 have hH12:=hN
 clear hN
 try simp only [Act.put,List.getElem_toArray,List.getElem_cons_succ,List.getElem_cons_zero,List.setIfInBounds_toArray,List.set_cons_zero,List.set_cons_succ]
 refine wpAnyH_ready (rs:=[37]) (by as_aux_lemma => kernel_rfl) (by simp) ?_
 refine AllReadyH.cons (o:=_) rfl (fun K hK => ?_) AllReadyH.nil
 go_simp
 refine (R.equalC_any A5 A6 _ _ c5 c6 (minusC a b) (minusC a b) _ HR5.out HR6.out rfl rfl (by omega) (by omega)).mono ?_
 rw [decide_eq_true rfl]
 rintro _ wz ⟨rfl,hb⟩
 refine hK.out _ _ (sK_keep hb hH12) (fun hN => ?_)
 clear hK K hH12
 have hH13:=hN
 clear hN
 try simp only [Act.put,List.getElem_toArray,List.getElem_cons_succ,List.getElem_cons_zero,List.setIfInBounds_toArray,List.set_cons_zero,List.set_cons_succ]
 refine' wpAnyH_take (i:=38) (oi:=_) (v:=?v25) rfl (by as_aux_lemma => kernel_rfl) (by as_aux_lemma => kernel_rfl) (by as_aux_lemma => kernel_rfl) (fun _ _ _ h => h) (Or.inl ⟨by rfl,?y25⟩) hH13 ?r25
 case y25 => (intro w hSw; (try dsimp only at hSw); go_simp; (try with_reducible rfl))
 try simp only [Act.put,List.getElem_toArray,List.getElem_cons_succ,List.getElem_cons_zero,List.setIfInBounds_toArray,List.set_cons_zero,List.set_cons_succ]
 refine' wpAnyH_take (i:=39) (oi:=_) (v:=?v26) rfl (by as_aux_lemma => kernel_rfl) (by as_aux_lemma => kernel_rfl) (by as_aux_lemma => kernel_rfl) (fun _ _ _ h => h) (Or.inl ⟨by rfl,?y26⟩) hH13 ?r26
 case y26 => (intro w hSw; (try dsimp only at hSw); go_simp; (try with_reducible rfl))
 try simp only [Act.put,List.getElem_toArray,List.getElem_cons_succ,List.getElem_cons_zero,List.setIfInBounds_toArray,List.set_cons_zero,List.set_cons_succ]
 refine' wpAnyH_take (i:=40) (oi:=_) (v:=?v27) rfl (by as_aux_lemma => kernel_rfl) (by as_aux_lemma => kernel_rfl) (by as_aux_lemma => kernel_rfl) (fun _ _ _ h => h) (Or.inl ⟨by rfl,?y27⟩) hH13 ?r27
 case y27 => (intro w hSw; (try dsimp only at hSw); go_simp; (try with_reducible rfl))
 try simp only [Act.put,List.getElem_toArray,List.getElem_cons_succ,List.getElem_cons_zero,List.setIfInBounds_toArray,List.set_cons_zero,List.set_cons_succ]
 refine' wpAnyH_take (i:=41) (oi:=_) (v:=?v28) rfl (by as_aux_lemma => kernel_rfl) (by as_aux_lemma => kernel_rfl) (by as_aux_lemma => kernel_rfl) (fun _ _ _ h => h) (Or.inl ⟨by rfl,?y28⟩) hH13 ?r28
 case y28 => (intro w hSw; (try dsimp only at hSw); go_simp; (try with_reducible rfl))
 try simp only [Act.put,List.getElem_toArray,List.getElem_cons_succ,List.getElem_cons_zero,List.setIfInBounds_toArray,List.set_cons_zero,List.set_cons_succ]
 refine' wpAnyH_take (i:=43) (oi:=_) (v:=?v29) rfl (by as_aux_lemma => kernel_rfl) (by as_aux_lemma => kernel_rfl) (by as_aux_lemma => kernel_rfl) (fun _ _ _ h => h) (Or.inl ⟨by rfl,?y29⟩) hH13 ?r29
 case y29 => (intro w hSw; (try dsimp only at hSw); go_simp; (try with_reducible rfl))
 try simp only [Act.put,List.getElem_toArray,List.getElem_cons_succ,List.getElem_cons_zero,List.setIfInBounds_toArray,List.set_cons_zero,List.set_cons_succ]
 refine wpAnyH_ready (rs:=[42]) (by as_aux_lemma => kernel_rfl) (by simp) ?_
 refine AllReadyH.cons (o:=_) rfl (fun K hK => ?_) AllReadyH.nil
 go_simp
 refine (Same_any A B _ _ c d a b _ (HA.out.keep hH13.1) (HB.out.keep hH13.1) rfl rfl (by omega) (by omega)).mono ?_
 rw [HSM.out]
 rintro _ wz ⟨rfl,hb⟩
 refine hK.out _ _ (sK_keep hb hH13) (fun hN => ?_)
 clear hK K hH13
 have hH14:=hN
 clear hN
 try simp only [Act.put,List.getElem_toArray,List.getElem_cons_succ,List.getElem_cons_zero,List.setIfInBounds_toArray,List.set_cons_zero,List.set_cons_succ]
 refine' wpAnyH_take (i:=44) (oi:=_) (v:=?v30) rfl (by as_aux_lemma => kernel_rfl) (by as_aux_lemma => kernel_rfl) (by as_aux_lemma => kernel_rfl) (fun _ _ _ h => h) (Or.inl ⟨by rfl,?y30⟩) hH14 ?r30
 case y30 => (intro w hSw; (try dsimp only at hSw); go_simp; (try with_reducible rfl))
 try simp only [Act.put,List.getElem_toArray,List.getElem_cons_succ,List.getElem_cons_zero,List.setIfInBounds_toArray,List.set_cons_zero,List.set_cons_succ]
 refine' wpAnyH_take (i:=45) (oi:=_) (v:=?v31) rfl (by as_aux_lemma => kernel_rfl) (by as_aux_lemma => kernel_rfl) (by as_aux_lemma => kernel_rfl) (fun _ _ _ h => h) (Or.inl ⟨by rfl,?y31⟩) hH14 ?r31
 case y31 => (intro w hSw; (try dsimp only at hSw); go_simp; (try with_reducible rfl))
 try simp only [Act.put,List.getElem_toArray,List.getElem_cons_succ,List.getElem_cons_zero,List.setIfInBounds_toArray,List.set_cons_zero,List.set_cons_succ]
 refine' wpAnyH_take (i:=46) (oi:=_) (v:=?v32) rfl (by as_aux_lemma => kernel_rfl) (by as_aux_lemma => kernel_rfl) (by as_aux_lemma => kernel_rfl) (fun _ _ _ h => h) (Or.inl ⟨by rfl,?y32⟩) hH14 ?r32
 case y32 => (intro w hSw; (try dsimp only at hSw); go_simp; (try with_reducible rfl))
 try simp only [Act.put,List.getElem_toArray,List.getElem_cons_succ,List.getElem_cons_zero,List.setIfInBounds_toArray,List.set_cons_zero,List.set_cons_succ]
 refine' wpAnyH_take (i:=47) (oi:=_) (v:=?v33) rfl (by as_aux_lemma => kernel_rfl) (by as_aux_lemma => kernel_rfl) (by as_aux_lemma => kernel_rfl) (fun _ _ _ h => h) (Or.inl ⟨by rfl,?y33⟩) hH14 ?r33
 case y33 => (intro w hSw; (try dsimp only at hSw); go_simp; (try with_reducible rfl))
 try simp only [Act.put,List.getElem_toArray,List.getElem_cons_succ,List.getElem_cons_zero,List.setIfInBounds_toArray,List.set_cons_zero,List.set_cons_succ]
 refine' wpAnyH_take (i:=49) (oi:=_) (v:=?v34) rfl (by as_aux_lemma => kernel_rfl) (by as_aux_lemma => kernel_rfl) (by as_aux_lemma => kernel_rfl) (fun _ _ _ h => h) (Or.inl ⟨by rfl,?y34⟩) hH14 ?r34
 case y34 => (intro w hSw; (try dsimp only at hSw); go_simp; (try with_reducible rfl))
 try simp only [Act.put,List.getElem_toArray,List.getElem_cons_succ,List.getElem_cons_zero,List.setIfInBounds_toArray,List.set_cons_zero,List.set_cons_succ]
 refine wpAnyH_ready (rs:=[48]) (by as_aux_lemma => kernel_rfl) (by simp) ?_
 refine AllReadyH.cons (o:=_) rfl (fun K hK => ?_) AllReadyH.nil
 go_simp
 refine (Long_any A _ c a _ (HA.out.keep hH14.1) rfl (by omega)).mono ?_
 rw [HLG.out]
 rintro _ wz ⟨rfl,hb⟩
 refine hK.out _ _ (sK_keep hb hH14) (fun hN => ?_)
 clear hK K hH14
 have hH15:=hN
 clear hN
 try simp only [Act.put,List.getElem_toArray,List.getElem_cons_succ,List.getElem_cons_zero,List.setIfInBounds_toArray,List.set_cons_zero,List.set_cons_succ]
 refine wpAnyH_ready (rs:=[50]) (by as_aux_lemma => kernel_rfl) (by simp) ?_
 refine AllReadyH.cons (o:=_) rfl (fun K hK => ?_) AllReadyH.nil
 go_simp
 refine (R.cLong_any A _ c a _ (HA.out.keep hH15.1) rfl (by omega)).mono ?_
 rw [HLG.out]
 rintro _ wz ⟨rfl,hb⟩
 refine hK.out _ _ (sK_keep hb hH15) (fun hN => ?_)
 clear hK K hH15
 have hH16:=hN
 clear hN
 try simp only [Act.put,List.getElem_toArray,List.getElem_cons_succ,List.getElem_cons_zero,List.setIfInBounds_toArray,List.set_cons_zero,List.set_cons_succ]
 refine' wpAnyH_take (i:=51) (oi:=_) (v:=?v35) rfl (by as_aux_lemma => kernel_rfl) (by as_aux_lemma => kernel_rfl) (by as_aux_lemma => kernel_rfl) (fun _ _ _ h => h) (Or.inl ⟨by rfl,?y35⟩) hH16 ?r35
 case y35 => (intro w hSw; (try dsimp only at hSw); go_simp; (try with_reducible rfl))
 try simp only [Act.put,List.getElem_toArray,List.getElem_cons_succ,List.getElem_cons_zero,List.setIfInBounds_toArray,List.set_cons_zero,List.set_cons_succ]
 refine' wpAnyH_take (i:=52) (oi:=_) (v:=?v36) rfl (by as_aux_lemma => kernel_rfl) (by as_aux_lemma => kernel_rfl) (by as_aux_lemma => kernel_rfl) (fun _ _ _ h => h) (Or.inl ⟨by rfl,?y36⟩) hH16 ?r36
 case y36 => (intro w hSw; (try dsimp only at hSw); go_simp; (try with_reducible rfl))
 try simp only [Act.put,List.getElem_toArray,List.getElem_cons_succ,List.getElem_cons_zero,List.setIfInBounds_toArray,List.set_cons_zero,List.set_cons_succ]
 refine' wpAnyH_take (i:=53) (oi:=_) (v:=?v37) rfl (by as_aux_lemma => kernel_rfl) (by as_aux_lemma => kernel_rfl) (by as_aux_lemma => kernel_rfl) (fun _ _ _ h => h) (Or.inl ⟨by rfl,?y37⟩) hH16 ?r37
 case y37 => (intro w hSw; (try dsimp only at hSw); go_simp; (try with_reducible rfl))
 try simp only [Act.put,List.getElem_toArray,List.getElem_cons_succ,List.getElem_cons_zero,List.setIfInBounds_toArray,List.set_cons_zero,List.set_cons_succ]
 refine wpAnyH_done (by as_aux_lemma => kernel_rfl) ?_ _
 have HBE:=hide hH16.1
 clear hH16
 go_wp2_with fail
 go_ret
 exact ⟨rfl,andthen HBX.out HBE.out⟩
theorem te12_any (r f t q g u : Int) (A : Option Addr) (n c : Nat) (a : List C) (B : Option Addr) (m d : Nat) (b : List C) (w : World) (h : RowC w A a) (he : n = a.length) (hn : a.length <= maxLen) (k : RowC w B b) (hf : m = b.length) (hm : b.length <= maxLen) :
  Calls Tryz.prog 3 #[.agg #[.int .i64 r,.int .i64 f,.int .i64 t],.agg #[.int .i64 q,.int .i64 g,.int .i64 u],.slice A n c,.slice B m d] w fun e w' => e = .returned (.bool true) /\ Below w.heap.size w w':=by
 subst he hf
 by_cases g1 : 30 < a.length
 ·exact te12_few r f t q g u A B c d a b w h k hn hm (Or.inl g1)
 ·by_cases g2 : 30 < b.length
  ·exact te12_few r f t q g u A B c d a b w h k hn hm (Or.inr ⟨g1,g2⟩)
  ·exact te12_yes r f t q g u A B c d a b w h k (by omega) (by omega)
end Go.Proofs.YtgihekokbgggcaaGreat.S2

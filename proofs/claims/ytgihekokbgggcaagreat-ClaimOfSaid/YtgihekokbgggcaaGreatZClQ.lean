/- The statements' known of layer 12. Written by recipes/cl6.py. -/
import Derived.Test.YtgihekokbgggcaaGreatZM4
import Derived.Test.YtgihekokbgggcaaGreatZClP
import Derived.Test.YtgihekokbgggcaaGreatZC1
set_option maxHeartbeats 8000000
set_option maxRecDepth 1000000
namespace Go.Proofs.YtgihekokbgggcaaGreat.S2
open Go.RowKit Spn Cl
theorem sK_keep {W w w' : World} {a1 a2 a3 a4 a5 a6 : Addr} {v1 v2 v3 v4 v5 v6 : Value} (hb : Below w.heap.size w w') (h : Below W.heap.size W w /\ w.cell? a1 = some v1 /\ w.cell? a2 = some v2 /\ w.cell? a3 = some v3 /\ w.cell? a4 = some v4 /\ w.cell? a5 = some v5 /\ w.cell? a6 = some v6) :
  Below W.heap.size W w' /\ w'.cell? a1 = some v1 /\ w'.cell? a2 = some v2 /\ w'.cell? a3 = some v3 /\ w'.cell? a4 = some v4 /\ w'.cell? a5 = some v5 /\ w'.cell? a6 = some v6 :=
 ⟨h.1.trans (hb.mono h.1.size),cell_keep hb h.2.1,cell_keep hb h.2.2.1,cell_keep hb h.2.2.2.1,cell_keep hb h.2.2.2.2.1,cell_keep hb h.2.2.2.2.2.1,cell_keep hb h.2.2.2.2.2.2⟩
def mE (b : Nat) : Mem:=⟨some ⟨b,0,none⟩,2,none,0,none,0,none,0,none,0⟩
def mZ : Mem:=⟨none,0,none,0,none,0,none,0,none,0⟩
theorem row_13 (w : World) (t : TypeId) : RowI (w.alloc (.cells #[.int .i64 1,.int .i64 3] t)) (some ⟨w.heap.size,0,none⟩) [1,3]:=fun _ => by
 refine ⟨w.heap.size,0,rfl,by simp,fun i hi => ?_⟩
 rcases (by simp at hi; omega : i = 0 ∨ i = 1) with rfl | rfl <;> rw [World.cell?_alloc_at _ _ _ _ rfl] <;> rfl
theorem evL_K {w : World} {b : Nat} (h : RowI w (some ⟨b,0,none⟩) [1,3]) : EvL w eK (mE b):=⟨h,by decide,lies_once _,fun h => absurd rfl h,by decide,by decide,by decide⟩
theorem evL_Z (w : World) : EvL w eZ mZ:=⟨fun h => absurd rfl h,by decide,lies_once _,fun h => absurd rfl h,by decide,by decide,by decide⟩
theorem row_mK (w : World) (t : TypeId) : RowC (w.alloc (.cells #[.int .i64 2,.int .i64 5,.int .i64 9,.int .i64 1,.int .i64 0,.int .i64 3,.int .i64 2,.int .i64 9,.int .i64 10] t)) (some ⟨w.heap.size,0,none⟩) mK:=fun _ => by
 refine ⟨w.heap.size,0,rfl,by simp,fun i hi => ?_⟩
 have hi : i < 3:=hi
 rcases (by omega : i = 0 ∨ i = 1 ∨ i = 2) with rfl | rfl | rfl <;> refine ⟨?_,?_,?_⟩ <;> rw [World.cell?_alloc_at _ _ _ _ rfl] <;> rfl
set_option linter.unusedSimpArgs false in
theorem known_any (w : World) : Calls Tryz.prog 9 #[] w fun e w' => e = .returned (.bool true) /\ Below w.heap.size w w':=by
 go_enter Tryz.func9,Tryz.ntmps9
 go_wp2_with fail
 refine (Go.Proofs.YtgihekokbgggcaaGreat.R.once_any _).mono ?_
 rintro e w1 ⟨rfl,hb⟩
 have HB:=hide (andthen (more (start w) (.cells #[.int .i64 1,.int .i64 3] 3)) hb)
 have HRO:=hide ((row_13 w 3).keep hb)
 clear hb
 have hw1 : w.heap.size < w1.heap.size:=by obtain ⟨b,o,e,hlt,_⟩:=HRO.out (by simp); injection e with e; injection e with e1 _ _; omega
 go_wp2_with fail
 refine (of_any eK (mE w.heap.size) _ (evL_K (HRO.out.keep (more (start w1) _)))).mono ?_
 rw [kOf]
 rintro e w2 ⟨v2,rfl,ho,hb⟩
 obtain ⟨AL,cL,rfl,hrL⟩:=ho.row
 have HRL:=hide hrL
 replace HB:=hide (andthen HB.out (andthen (more (start w1) _) hb))
 clear ho hb hrL HRO hw1
 go_wp2_with fail
 refine (c_any _ _ _ _).mono ?_
 rintro e w3 ⟨rfl,hb⟩
 replace HRL:=hide (HRL.out.keep hb)
 replace HB:=hide (andthen HB.out hb)
 clear hb
 go_wp2_with fail
 refine (c_any _ _ _ _).mono ?_
 rintro e w4 ⟨rfl,hb⟩
 replace HRL:=hide (HRL.out.keep hb)
 replace HB:=hide (andthen HB.out hb)
 clear hb
 go_wp2_with fail
 refine (c_any _ _ _ _).mono ?_
 rintro e w5 ⟨rfl,hb⟩
 replace HRL:=hide (HRL.out.keep hb)
 replace HB:=hide (andthen HB.out hb)
 clear hb
 go_wp2_with fail
 refine (Neat_any (some ⟨w5.heap.size,0,none⟩) 3 3 mK _ (row_mK w5 _) rfl (by decide)).mono ?_
 rw [kNeat]
 rintro e w6 ⟨v6,rfl,ho,hb⟩
 obtain ⟨AN,cN,rfl,hrN⟩:=ho.row
 have HRN:=hide hrN
 replace HRL:=hide (HRL.out.keep (andthen (more (start w5) _) hb))
 replace HB:=hide (andthen HB.out (andthen (more (start w5) _) hb))
 clear ho hb hrN
 go_wp2_with fail
 refine (of_any eZ mZ _ (evL_Z _)).mono ?_
 rw [kOfZ]
 rintro e W ⟨v7,rfl,ho,hb⟩
 obtain ⟨A7,c7,rfl,_⟩:=ho.row
 replace HRL:=hide (HRL.out.keep hb)
 replace HRN:=hide (HRN.out.keep hb)
 replace HB:=hide (andthen HB.out hb)
 clear ho hb
 obtain ⟨bL,oL,rfl,hbL,hcL⟩:=HRL.out (by decide)
 obtain ⟨bN,oN,rfl,hbN,hcN⟩:=HRN.out (by decide)
 have HS0:=hide (And.intro (start W) (And.intro (hcL 1 (by decide)).1 (And.intro (hcL 1 (by decide)).2.1 (And.intro (hcL 1 (by decide)).2.2 (And.intro (hcN 1 (by decide)).1 (And.intro (hcN 1 (by decide)).2.1 (hcN 1 (by decide)).2.2))))))
 clear hcL hcN hbL hbN
 have hkl : lK.length = 2:=rfl
 have hkn : nK.length = 2:=rfl
 go_wp2_with fail
 refine wp_region_held_drew (S:=fun w' => Below W.heap.size W w' /\ w'.cell? ⟨bL,oL + 3,none⟩ = some (.int .i64 3) /\ w'.cell? ⟨bL,oL + 3 + 1,none⟩ = some (.int .i64 90) /\ w'.cell? ⟨bL,oL + 3 + 2,none⟩ = some (.int .i64 150) /\ w'.cell? ⟨bN,oN + 3,none⟩ = some (.int .i64 2) /\ w'.cell? ⟨bN,oN + 3 + 1,none⟩ = some (.int .i64 5) /\ w'.cell? ⟨bN,oN + 3 + 2,none⟩ = some (.int .i64 10)) (by kernel_rfl) ?_ (fun hH0 => ?_)
 ·exact sK_keep (start W).drew HS0.out
 refine' wpAnyH_take (i:=0) (oi:=_) (v:=?v0) rfl (by as_aux_lemma => kernel_rfl) (by as_aux_lemma => kernel_rfl) (by as_aux_lemma => kernel_rfl) (fun _ _ _ h => h) (Or.inl ⟨by rfl,?y0⟩) hH0 ?r0
 case y0 => (intro w hSw; (try dsimp only at hSw); go_simp; (try with_reducible rfl))
 try simp only [Act.put,List.getElem_toArray,List.getElem_cons_succ,List.getElem_cons_zero,List.setIfInBounds_toArray,List.set_cons_zero,List.set_cons_succ]
 refine' wpAnyH_take (i:=1) (oi:=_) (v:=?v1) rfl (by as_aux_lemma => kernel_rfl) (by as_aux_lemma => kernel_rfl) (by as_aux_lemma => kernel_rfl) (fun _ _ _ h => h) (Or.inl ⟨by rfl,?y1⟩) hH0 ?r1
 case y1 => (intro w hSw; (try dsimp only at hSw); go_simp; (try with_reducible rfl))
 try simp only [Act.put,List.getElem_toArray,List.getElem_cons_succ,List.getElem_cons_zero,List.setIfInBounds_toArray,List.set_cons_zero,List.set_cons_succ]
 refine' wpAnyH_take (i:=2) (oi:=_) (v:=?v2) rfl (by as_aux_lemma => kernel_rfl) (by as_aux_lemma => kernel_rfl) (by as_aux_lemma => kernel_rfl) (fun _ _ _ h => h) (Or.inl ⟨by rfl,?y2⟩) hH0 ?r2
 case y2 => (intro w hSw; (try dsimp only at hSw); go_simp; (try with_reducible rfl))
 try simp only [Act.put,List.getElem_toArray,List.getElem_cons_succ,List.getElem_cons_zero,List.setIfInBounds_toArray,List.set_cons_zero,List.set_cons_succ]
 refine' wpAnyH_take (i:=3) (oi:=_) (v:=?v3) rfl (by as_aux_lemma => kernel_rfl) (by as_aux_lemma => kernel_rfl) (by as_aux_lemma => kernel_rfl) (fun _ _ _ h => h) (Or.inl ⟨by rfl,?y3⟩) hH0 ?r3
 case y3 => (intro w hSw; (try dsimp only at hSw); go_simp; (try with_reducible rfl))
 try simp only [Act.put,List.getElem_toArray,List.getElem_cons_succ,List.getElem_cons_zero,List.setIfInBounds_toArray,List.set_cons_zero,List.set_cons_succ]
 refine' wpAnyH_take (i:=4) (oi:=_) (v:=?v4) rfl (by as_aux_lemma => kernel_rfl) (by as_aux_lemma => kernel_rfl) (by as_aux_lemma => kernel_rfl) (fun _ _ _ h => h) (Or.inl ⟨by rfl,?y4⟩) hH0 ?r4
 case y4 => (intro w hSw; (try dsimp only at hSw); go_simp; (try with_reducible rfl))
 try simp only [Act.put,List.getElem_toArray,List.getElem_cons_succ,List.getElem_cons_zero,List.setIfInBounds_toArray,List.set_cons_zero,List.set_cons_succ]
 refine' wpAnyH_take (i:=5) (oi:=_) (v:=?v5) rfl (by as_aux_lemma => kernel_rfl) (by as_aux_lemma => kernel_rfl) (by as_aux_lemma => kernel_rfl) (fun _ _ _ h => h) (Or.inl ⟨by rfl,?y5⟩) hH0 ?r5
 case y5 => (intro w hSw; (try dsimp only at hSw); go_simp; (try with_reducible rfl))
 try simp only [Act.put,List.getElem_toArray,List.getElem_cons_succ,List.getElem_cons_zero,List.setIfInBounds_toArray,List.set_cons_zero,List.set_cons_succ]
 refine' wpAnyH_take (i:=6) (oi:=_) (v:=?v6) rfl (by as_aux_lemma => kernel_rfl) (by as_aux_lemma => kernel_rfl) (by as_aux_lemma => kernel_rfl) (fun _ _ _ h => h) (Or.inl ⟨by rfl,?y6⟩) hH0 ?r6
 case y6 => (intro w hSw; (try dsimp only at hSw); go_simp; (try with_reducible rfl))
 try simp only [Act.put,List.getElem_toArray,List.getElem_cons_succ,List.getElem_cons_zero,List.setIfInBounds_toArray,List.set_cons_zero,List.set_cons_succ]
 refine' wpAnyH_take (i:=7) (oi:=_) (v:=?v7) rfl (by as_aux_lemma => kernel_rfl) (by as_aux_lemma => kernel_rfl) (by as_aux_lemma => kernel_rfl) (fun _ _ _ h => h) (Or.inl ⟨by rfl,?y7⟩) hH0 ?r7
 case y7 => (intro w hSw; (try dsimp only at hSw); go_simp; (try with_reducible rfl))
 try simp only [Act.put,List.getElem_toArray,List.getElem_cons_succ,List.getElem_cons_zero,List.setIfInBounds_toArray,List.set_cons_zero,List.set_cons_succ]
 refine' wpAnyH_take (i:=8) (oi:=_) (v:=?v8) rfl (by as_aux_lemma => kernel_rfl) (by as_aux_lemma => kernel_rfl) (by as_aux_lemma => kernel_rfl) (fun _ _ _ h => h) (Or.inl ⟨by rfl,?y8⟩) hH0 ?r8
 case y8 => (intro w hSw; (try dsimp only at hSw); go_simp; (try with_reducible rfl))
 try simp only [Act.put,List.getElem_toArray,List.getElem_cons_succ,List.getElem_cons_zero,List.setIfInBounds_toArray,List.set_cons_zero,List.set_cons_succ]
 refine' wpAnyH_take (i:=9) (oi:=_) (v:=?v9) rfl (by as_aux_lemma => kernel_rfl) (by as_aux_lemma => kernel_rfl) (by as_aux_lemma => kernel_rfl) (fun _ _ _ h => h) (Or.inl ⟨by rfl,?y9⟩) hH0 ?r9
 case y9 => (intro w hSw; (try dsimp only at hSw); go_simp; (try with_reducible rfl))
 try simp only [Act.put,List.getElem_toArray,List.getElem_cons_succ,List.getElem_cons_zero,List.setIfInBounds_toArray,List.set_cons_zero,List.set_cons_succ]
 refine' wpAnyH_take (i:=10) (oi:=_) (v:=?v10) rfl (by as_aux_lemma => kernel_rfl) (by as_aux_lemma => kernel_rfl) (by as_aux_lemma => kernel_rfl) (fun _ _ _ h => h) (Or.inl ⟨by rfl,?y10⟩) hH0 ?r10
 case y10 => (intro w hSw; (try dsimp only at hSw); go_simp; (try with_reducible rfl))
 try simp only [Act.put,List.getElem_toArray,List.getElem_cons_succ,List.getElem_cons_zero,List.setIfInBounds_toArray,List.set_cons_zero,List.set_cons_succ]
 refine wpAnyH_ready (rs:=[11]) (by as_aux_lemma => kernel_rfl) (by simp) ?_
 refine AllReadyH.cons (o:=_) rfl (fun K hK => ?_) AllReadyH.nil
 go_simp
 refine (c_any _ _ _ _).mono ?_
 rintro _ wz ⟨rfl,hb⟩
 refine hK.out _ _ (sK_keep hb hH0) (fun hN => ?_)
 clear hK K hH0
 have hH1:=hN
 clear hN
 try simp only [Act.put,List.getElem_toArray,List.getElem_cons_succ,List.getElem_cons_zero,List.setIfInBounds_toArray,List.set_cons_zero,List.set_cons_succ]
 refine' wpAnyH_take (i:=12) (oi:=_) (v:=?v11) rfl (by as_aux_lemma => kernel_rfl) (by as_aux_lemma => kernel_rfl) (by as_aux_lemma => kernel_rfl) (fun _ _ _ h => h) (Or.inl ⟨by rfl,?y11⟩) hH1 ?r11
 case y11 => (intro w hSw; (try dsimp only at hSw); go_simp; (try with_reducible rfl))
 try simp only [Act.put,List.getElem_toArray,List.getElem_cons_succ,List.getElem_cons_zero,List.setIfInBounds_toArray,List.set_cons_zero,List.set_cons_succ]
 refine' wpAnyH_take (i:=13) (oi:=_) (v:=?v12) rfl (by as_aux_lemma => kernel_rfl) (by as_aux_lemma => kernel_rfl) (by as_aux_lemma => kernel_rfl) (fun _ _ _ h => h) (Or.inl ⟨by rfl,?y12⟩) hH1 ?r12
 case y12 => (intro w hSw; (try dsimp only at hSw); go_simp; (try with_reducible rfl))
 try simp only [Act.put,List.getElem_toArray,List.getElem_cons_succ,List.getElem_cons_zero,List.setIfInBounds_toArray,List.set_cons_zero,List.set_cons_succ]
 refine' wpAnyH_take (i:=14) (oi:=_) (v:=?v13) rfl (by as_aux_lemma => kernel_rfl) (by as_aux_lemma => kernel_rfl) (by as_aux_lemma => kernel_rfl) (fun _ _ _ h => h) (Or.inl ⟨by rfl,?y13⟩) hH1 ?r13
 case y13 => (intro w hSw; (try dsimp only at hSw); go_simp; (try with_reducible rfl))
 try simp only [Act.put,List.getElem_toArray,List.getElem_cons_succ,List.getElem_cons_zero,List.setIfInBounds_toArray,List.set_cons_zero,List.set_cons_succ]
 refine' wpAnyH_take (i:=15) (oi:=_) (v:=?v14) rfl (by as_aux_lemma => kernel_rfl) (by as_aux_lemma => kernel_rfl) (by as_aux_lemma => kernel_rfl) (fun _ _ _ h => h) (Or.inl ⟨by rfl,?y14⟩) hH1 ?r14
 case y14 => (intro w hSw; (try dsimp only at hSw); go_simp; (try with_reducible rfl))
 try simp only [Act.put,List.getElem_toArray,List.getElem_cons_succ,List.getElem_cons_zero,List.setIfInBounds_toArray,List.set_cons_zero,List.set_cons_succ]
 refine wpAnyH_ready (rs:=[16]) (by as_aux_lemma => kernel_rfl) (by simp) ?_
 refine AllReadyH.cons (o:=_) rfl (fun K hK => ?_) AllReadyH.nil
 go_simp
 refine (Long_any (some ⟨bL,oL,none⟩) _ cL lK _ (HRL.out.keep hH1.1) rfl (by decide)).mono ?_
 rw [kLong]
 rintro _ wz ⟨rfl,hb⟩
 refine hK.out _ _ (sK_keep hb hH1) (fun hN => ?_)
 clear hK K hH1
 have hH2:=hN
 clear hN
 try simp only [Act.put,List.getElem_toArray,List.getElem_cons_succ,List.getElem_cons_zero,List.setIfInBounds_toArray,List.set_cons_zero,List.set_cons_succ]
 refine' wpAnyH_take (i:=17) (oi:=_) (v:=?v15) rfl (by as_aux_lemma => kernel_rfl) (by as_aux_lemma => kernel_rfl) (by as_aux_lemma => kernel_rfl) (fun _ _ _ h => h) (Or.inl ⟨by rfl,?y15⟩) hH2 ?r15
 case y15 => (intro w hSw; (try dsimp only at hSw); go_simp; (try with_reducible rfl))
 try simp only [Act.put,List.getElem_toArray,List.getElem_cons_succ,List.getElem_cons_zero,List.setIfInBounds_toArray,List.set_cons_zero,List.set_cons_succ]
 refine' wpAnyH_take (i:=18) (oi:=_) (v:=?v16) rfl (by as_aux_lemma => kernel_rfl) (by as_aux_lemma => kernel_rfl) (by as_aux_lemma => kernel_rfl) (fun _ _ _ h => h) (Or.inl ⟨by rfl,?y16⟩) hH2 ?r16
 case y16 => (intro w hSw; (try dsimp only at hSw); go_simp; (try with_reducible rfl))
 try simp only [Act.put,List.getElem_toArray,List.getElem_cons_succ,List.getElem_cons_zero,List.setIfInBounds_toArray,List.set_cons_zero,List.set_cons_succ]
 refine' wpAnyH_take (i:=19) (oi:=_) (v:=?v17) rfl (by as_aux_lemma => kernel_rfl) (by as_aux_lemma => kernel_rfl) (by as_aux_lemma => kernel_rfl) (fun _ _ _ h => h) (Or.inl ⟨by rfl,?y17⟩) hH2 ?r17
 case y17 => (intro w hSw; (try dsimp only at hSw); go_simp; (try with_reducible rfl))
 try simp only [Act.put,List.getElem_toArray,List.getElem_cons_succ,List.getElem_cons_zero,List.setIfInBounds_toArray,List.set_cons_zero,List.set_cons_succ]
 refine' wpAnyH_take (i:=20) (oi:=_) (v:=?v18) rfl (by as_aux_lemma => kernel_rfl) (by as_aux_lemma => kernel_rfl) (by as_aux_lemma => kernel_rfl) (fun _ _ _ h => h) (Or.inl ⟨by rfl,?y18⟩) hH2 ?r18
 case y18 => (intro w hSw; (try dsimp only at hSw); go_simp; (try with_reducible rfl))
 try simp only [Act.put,List.getElem_toArray,List.getElem_cons_succ,List.getElem_cons_zero,List.setIfInBounds_toArray,List.set_cons_zero,List.set_cons_succ]
 refine' wpAnyH_take (i:=21) (oi:=_) (v:=?v19) rfl (by as_aux_lemma => kernel_rfl) (by as_aux_lemma => kernel_rfl) (by as_aux_lemma => kernel_rfl) (fun _ _ _ h => h) (Or.inl ⟨by rfl,?y19⟩) hH2 ?r19
 case y19 => (intro w hSw; (try dsimp only at hSw); go_simp; (try with_reducible rfl))
 try simp only [Act.put,List.getElem_toArray,List.getElem_cons_succ,List.getElem_cons_zero,List.setIfInBounds_toArray,List.set_cons_zero,List.set_cons_succ]
 refine' wpAnyH_take (i:=22) (oi:=_) (v:=?v20) rfl (by as_aux_lemma => kernel_rfl) (by as_aux_lemma => kernel_rfl) (by as_aux_lemma => kernel_rfl) (fun _ _ _ h => h) (Or.inl ⟨by rfl,?y20⟩) hH2 ?r20
 case y20 => (intro w hSw; (try dsimp only at hSw); go_simp; (try with_reducible rfl))
 try simp only [Act.put,List.getElem_toArray,List.getElem_cons_succ,List.getElem_cons_zero,List.setIfInBounds_toArray,List.set_cons_zero,List.set_cons_succ]
 refine' wpAnyH_take (i:=23) (oi:=_) (v:=?v21) rfl (by as_aux_lemma => kernel_rfl) (by as_aux_lemma => kernel_rfl) (by as_aux_lemma => kernel_rfl) (fun _ _ _ h => h) (Or.inl ⟨by rfl,?y21⟩) hH2 ?r21
 case y21 => (intro w hSw; (try dsimp only at hSw); go_simp; (try with_reducible rfl))
 try simp only [Act.put,List.getElem_toArray,List.getElem_cons_succ,List.getElem_cons_zero,List.setIfInBounds_toArray,List.set_cons_zero,List.set_cons_succ]
 refine' wpAnyH_take (i:=24) (oi:=_) (v:=?v22) rfl (by as_aux_lemma => kernel_rfl) (by as_aux_lemma => kernel_rfl) (by as_aux_lemma => kernel_rfl) (fun _ _ _ h => h) (Or.inl ⟨by rfl,?y22⟩) hH2 ?r22
 case y22 => (intro w hSw; (try dsimp only at hSw); go_simp; (try with_reducible rfl))
 try simp only [Act.put,List.getElem_toArray,List.getElem_cons_succ,List.getElem_cons_zero,List.setIfInBounds_toArray,List.set_cons_zero,List.set_cons_succ]
 refine' wpAnyH_take (i:=25) (oi:=_) (v:=?v23) rfl (by as_aux_lemma => kernel_rfl) (by as_aux_lemma => kernel_rfl) (by as_aux_lemma => kernel_rfl) (fun _ _ _ h => h) (Or.inl ⟨by rfl,?y23⟩) hH2 ?r23
 case y23 => (intro w hSw; (try dsimp only at hSw); go_simp; (try with_reducible rfl))
 try simp only [Act.put,List.getElem_toArray,List.getElem_cons_succ,List.getElem_cons_zero,List.setIfInBounds_toArray,List.set_cons_zero,List.set_cons_succ]
 refine' wpAnyH_take (i:=26) (oi:=_) (v:=?v24) rfl (by as_aux_lemma => kernel_rfl) (by as_aux_lemma => kernel_rfl) (by as_aux_lemma => kernel_rfl) (fun _ _ _ h => h) (Or.inl ⟨by rfl,?y24⟩) hH2 ?r24
 case y24 => (intro w hSw; (try dsimp only at hSw); go_simp; (try with_reducible rfl))
 try simp only [Act.put,List.getElem_toArray,List.getElem_cons_succ,List.getElem_cons_zero,List.setIfInBounds_toArray,List.set_cons_zero,List.set_cons_succ]
 refine' wpAnyH_take (i:=27) (oi:=_) (v:=?v25) rfl (by as_aux_lemma => kernel_rfl) (by as_aux_lemma => kernel_rfl) (by as_aux_lemma => kernel_rfl) (fun _ _ _ h => h) (Or.inl ⟨by rfl,?y25⟩) hH2 ?r25
 case y25 => (intro w hSw; (try dsimp only at hSw); go_simp; (try with_reducible rfl))
 try simp only [Act.put,List.getElem_toArray,List.getElem_cons_succ,List.getElem_cons_zero,List.setIfInBounds_toArray,List.set_cons_zero,List.set_cons_succ]
 refine wpAnyH_ready (rs:=[28]) (by as_aux_lemma => kernel_rfl) (by simp) ?_
 refine AllReadyH.cons (o:=_) rfl (fun K hK => ?_) AllReadyH.nil
 go_simp
 refine (c_any _ _ _ _).mono ?_
 rintro _ wz ⟨rfl,hb⟩
 refine hK.out _ _ (sK_keep hb hH2) (fun hN => ?_)
 clear hK K hH2
 have hH3:=hN
 clear hN
 try simp only [Act.put,List.getElem_toArray,List.getElem_cons_succ,List.getElem_cons_zero,List.setIfInBounds_toArray,List.set_cons_zero,List.set_cons_succ]
 refine' wpAnyH_take (i:=29) (oi:=_) (v:=?v26) rfl (by as_aux_lemma => kernel_rfl) (by as_aux_lemma => kernel_rfl) (by as_aux_lemma => kernel_rfl) (fun _ _ _ h => h) (Or.inl ⟨by rfl,?y26⟩) hH3 ?r26
 case y26 => (intro w hSw; (try dsimp only at hSw); go_simp; (try with_reducible rfl))
 try simp only [Act.put,List.getElem_toArray,List.getElem_cons_succ,List.getElem_cons_zero,List.setIfInBounds_toArray,List.set_cons_zero,List.set_cons_succ]
 refine' wpAnyH_take (i:=30) (oi:=_) (v:=?v27) rfl (by as_aux_lemma => kernel_rfl) (by as_aux_lemma => kernel_rfl) (by as_aux_lemma => kernel_rfl) (fun _ _ _ h => h) (Or.inl ⟨by rfl,?y27⟩) hH3 ?r27
 case y27 => (intro w hSw; (try dsimp only at hSw); go_simp; (try with_reducible rfl))
 try simp only [Act.put,List.getElem_toArray,List.getElem_cons_succ,List.getElem_cons_zero,List.setIfInBounds_toArray,List.set_cons_zero,List.set_cons_succ]
 refine' wpAnyH_take (i:=31) (oi:=_) (v:=?v28) rfl (by as_aux_lemma => kernel_rfl) (by as_aux_lemma => kernel_rfl) (by as_aux_lemma => kernel_rfl) (fun _ _ _ h => h) (Or.inl ⟨by rfl,?y28⟩) hH3 ?r28
 case y28 => (intro w hSw; (try dsimp only at hSw); go_simp; (try with_reducible rfl))
 try simp only [Act.put,List.getElem_toArray,List.getElem_cons_succ,List.getElem_cons_zero,List.setIfInBounds_toArray,List.set_cons_zero,List.set_cons_succ]
 refine' wpAnyH_take (i:=32) (oi:=_) (v:=?v29) rfl (by as_aux_lemma => kernel_rfl) (by as_aux_lemma => kernel_rfl) (by as_aux_lemma => kernel_rfl) (fun _ _ _ h => h) (Or.inl ⟨by rfl,?y29⟩) hH3 ?r29
 case y29 => (intro w hSw; (try dsimp only at hSw); go_simp; (try with_reducible rfl))
 try simp only [Act.put,List.getElem_toArray,List.getElem_cons_succ,List.getElem_cons_zero,List.setIfInBounds_toArray,List.set_cons_zero,List.set_cons_succ]
 refine' wpAnyH_take (i:=33) (oi:=_) (v:=?v30) rfl (by as_aux_lemma => kernel_rfl) (by as_aux_lemma => kernel_rfl) (by as_aux_lemma => kernel_rfl) (fun _ _ _ h => h) (Or.inl ⟨by rfl,?y30⟩) hH3 ?r30
 case y30 => (intro w hSw; (try dsimp only at hSw); go_simp; (try with_reducible rfl))
 try simp only [Act.put,List.getElem_toArray,List.getElem_cons_succ,List.getElem_cons_zero,List.setIfInBounds_toArray,List.set_cons_zero,List.set_cons_succ]
 refine' wpAnyH_take (i:=34) (oi:=_) (v:=?v31) rfl (by as_aux_lemma => kernel_rfl) (by as_aux_lemma => kernel_rfl) (by as_aux_lemma => kernel_rfl) (fun _ _ _ h => h) (Or.inl ⟨by rfl,?y31⟩) hH3 ?r31
 case y31 => (intro w hSw; (try dsimp only at hSw); go_simp; (try with_reducible rfl))
 try simp only [Act.put,List.getElem_toArray,List.getElem_cons_succ,List.getElem_cons_zero,List.setIfInBounds_toArray,List.set_cons_zero,List.set_cons_succ]
 refine' wpAnyH_take (i:=35) (oi:=_) (v:=?v32) rfl (by as_aux_lemma => kernel_rfl) (by as_aux_lemma => kernel_rfl) (by as_aux_lemma => kernel_rfl) (fun _ _ _ h => h) (Or.inl ⟨by rfl,?y32⟩) hH3 ?r32
 case y32 => (intro w hSw; (try dsimp only at hSw); go_simp; (try with_reducible rfl))
 try simp only [Act.put,List.getElem_toArray,List.getElem_cons_succ,List.getElem_cons_zero,List.setIfInBounds_toArray,List.set_cons_zero,List.set_cons_succ]
 refine wpAnyH_ready (rs:=[36]) (by as_aux_lemma => kernel_rfl) (by simp) ?_
 refine AllReadyH.cons (o:=_) rfl (fun K hK => ?_) AllReadyH.nil
 go_simp
 refine (c_any _ _ _ _).mono ?_
 rintro _ wz ⟨rfl,hb⟩
 refine hK.out _ _ (sK_keep hb hH3) (fun hN => ?_)
 clear hK K hH3
 have hH4:=hN
 clear hN
 try simp only [Act.put,List.getElem_toArray,List.getElem_cons_succ,List.getElem_cons_zero,List.setIfInBounds_toArray,List.set_cons_zero,List.set_cons_succ]
 refine wpAnyH_ready (rs:=[37]) (by as_aux_lemma => kernel_rfl) (by simp) ?_
 refine AllReadyH.cons (o:=_) rfl (fun K hK => ?_) AllReadyH.nil
 go_simp
 refine (cIs_at 0 0 1 true _ kIs).mono ?_
 rintro _ wz ⟨rfl,hb⟩
 refine hK.out _ _ (sK_keep hb hH4) (fun hN => ?_)
 clear hK K hH4
 have hH5:=hN
 clear hN
 try simp only [Act.put,List.getElem_toArray,List.getElem_cons_succ,List.getElem_cons_zero,List.setIfInBounds_toArray,List.set_cons_zero,List.set_cons_succ]
 refine' wpAnyH_take (i:=38) (oi:=_) (v:=?v33) rfl (by as_aux_lemma => kernel_rfl) (by as_aux_lemma => kernel_rfl) (by as_aux_lemma => kernel_rfl) (fun _ _ _ h => h) (Or.inl ⟨by rfl,?y33⟩) hH5 ?r33
 case y33 => (intro w hSw; (try dsimp only at hSw); go_simp; (try with_reducible rfl))
 try simp only [Act.put,List.getElem_toArray,List.getElem_cons_succ,List.getElem_cons_zero,List.setIfInBounds_toArray,List.set_cons_zero,List.set_cons_succ]
 refine' wpAnyH_take (i:=39) (oi:=_) (v:=?v34) rfl (by as_aux_lemma => kernel_rfl) (by as_aux_lemma => kernel_rfl) (by as_aux_lemma => kernel_rfl) (fun _ _ _ h => h) (Or.inl ⟨by rfl,?y34⟩) hH5 ?r34
 case y34 => (intro w hSw; (try dsimp only at hSw); go_simp; (try with_reducible rfl))
 try simp only [Act.put,List.getElem_toArray,List.getElem_cons_succ,List.getElem_cons_zero,List.setIfInBounds_toArray,List.set_cons_zero,List.set_cons_succ]
 refine wpAnyH_ready (rs:=[40]) (by as_aux_lemma => kernel_rfl) (by simp) ?_
 refine AllReadyH.cons (o:=_) rfl (fun K hK => ?_) AllReadyH.nil
 go_simp
 refine (c_any _ _ _ _).mono ?_
 rintro _ wz ⟨rfl,hb⟩
 refine hK.out _ _ (sK_keep hb hH5) (fun hN => ?_)
 clear hK K hH5
 have hH6:=hN
 clear hN
 try simp only [Act.put,List.getElem_toArray,List.getElem_cons_succ,List.getElem_cons_zero,List.setIfInBounds_toArray,List.set_cons_zero,List.set_cons_succ]
 refine wpAnyH_ready (rs:=[41]) (by as_aux_lemma => kernel_rfl) (by simp) ?_
 refine AllReadyH.cons (o:=_) rfl (fun K hK => ?_) AllReadyH.nil
 go_simp
 refine (cIs_at 8 0 1 false _ kNot).mono ?_
 rintro _ wz ⟨rfl,hb⟩
 refine hK.out _ _ (sK_keep hb hH6) (fun hN => ?_)
 clear hK K hH6
 have hH7:=hN
 clear hN
 try simp only [Act.put,List.getElem_toArray,List.getElem_cons_succ,List.getElem_cons_zero,List.setIfInBounds_toArray,List.set_cons_zero,List.set_cons_succ]
 refine' wpAnyH_take (i:=42) (oi:=_) (v:=?v35) rfl (by as_aux_lemma => kernel_rfl) (by as_aux_lemma => kernel_rfl) (by as_aux_lemma => kernel_rfl) (fun _ _ _ h => h) (Or.inl ⟨by rfl,?y35⟩) hH7 ?r35
 case y35 => (intro w hSw; (try dsimp only at hSw); go_simp; (try with_reducible rfl))
 try simp only [Act.put,List.getElem_toArray,List.getElem_cons_succ,List.getElem_cons_zero,List.setIfInBounds_toArray,List.set_cons_zero,List.set_cons_succ]
 refine' wpAnyH_take (i:=43) (oi:=_) (v:=?v36) rfl (by as_aux_lemma => kernel_rfl) (by as_aux_lemma => kernel_rfl) (by as_aux_lemma => kernel_rfl) (fun _ _ _ h => h) (Or.inl ⟨by rfl,?y36⟩) hH7 ?r36
 case y36 => (intro w hSw; (try dsimp only at hSw); go_simp; (try with_reducible rfl))
 try simp only [Act.put,List.getElem_toArray,List.getElem_cons_succ,List.getElem_cons_zero,List.setIfInBounds_toArray,List.set_cons_zero,List.set_cons_succ]
 refine' wpAnyH_take (i:=44) (oi:=_) (v:=?v37) rfl (by as_aux_lemma => kernel_rfl) (by as_aux_lemma => kernel_rfl) (by as_aux_lemma => kernel_rfl) (fun _ _ _ h => h) (Or.inl ⟨by rfl,?y37⟩) hH7 ?r37
 case y37 => (intro w hSw; (try dsimp only at hSw); go_simp; (try with_reducible rfl))
 try simp only [Act.put,List.getElem_toArray,List.getElem_cons_succ,List.getElem_cons_zero,List.setIfInBounds_toArray,List.set_cons_zero,List.set_cons_succ]
 refine wpAnyH_ready (rs:=[45]) (by as_aux_lemma => kernel_rfl) (by simp) ?_
 refine AllReadyH.cons (o:=_) rfl (fun K hK => ?_) AllReadyH.nil
 go_simp
 refine (c_any _ _ _ _).mono ?_
 rintro _ wz ⟨rfl,hb⟩
 refine hK.out _ _ (sK_keep hb hH7) (fun hN => ?_)
 clear hK K hH7
 have hH8:=hN
 clear hN
 try simp only [Act.put,List.getElem_toArray,List.getElem_cons_succ,List.getElem_cons_zero,List.setIfInBounds_toArray,List.set_cons_zero,List.set_cons_succ]
 refine wpAnyH_ready (rs:=[46]) (by as_aux_lemma => kernel_rfl) (by simp) ?_
 refine AllReadyH.cons (o:=_) rfl (fun K hK => ?_) AllReadyH.nil
 go_simp
 refine (c_any _ _ _ _).mono ?_
 rintro _ wz ⟨rfl,hb⟩
 refine hK.out _ _ (sK_keep hb hH8) (fun hN => ?_)
 clear hK K hH8
 have hH9:=hN
 clear hN
 try simp only [Act.put,List.getElem_toArray,List.getElem_cons_succ,List.getElem_cons_zero,List.setIfInBounds_toArray,List.set_cons_zero,List.set_cons_succ]
 refine wpAnyH_ready (rs:=[47]) (by as_aux_lemma => kernel_rfl) (by simp) ?_
 refine AllReadyH.cons (o:=_) rfl (fun K hK => ?_) AllReadyH.nil
 go_simp
 refine (cLess_any 1 5 6 2 0 1 _).mono ?_
 rw [kLess]
 rintro _ wz ⟨rfl,hb⟩
 refine hK.out _ _ (sK_keep hb hH9) (fun hN => ?_)
 clear hK K hH9
 have hH10:=hN
 clear hN
 try simp only [Act.put,List.getElem_toArray,List.getElem_cons_succ,List.getElem_cons_zero,List.setIfInBounds_toArray,List.set_cons_zero,List.set_cons_succ]
 refine' wpAnyH_take (i:=48) (oi:=_) (v:=?v38) rfl (by as_aux_lemma => kernel_rfl) (by as_aux_lemma => kernel_rfl) (by as_aux_lemma => kernel_rfl) (fun _ _ _ h => h) (Or.inl ⟨by rfl,?y38⟩) hH10 ?r38
 case y38 => (intro w hSw; (try dsimp only at hSw); go_simp; (try with_reducible rfl))
 try simp only [Act.put,List.getElem_toArray,List.getElem_cons_succ,List.getElem_cons_zero,List.setIfInBounds_toArray,List.set_cons_zero,List.set_cons_succ]
 refine' wpAnyH_take (i:=49) (oi:=_) (v:=?v39) rfl (by as_aux_lemma => kernel_rfl) (by as_aux_lemma => kernel_rfl) (by as_aux_lemma => kernel_rfl) (fun _ _ _ h => h) (Or.inl ⟨by rfl,?y39⟩) hH10 ?r39
 case y39 => (intro w hSw; (try dsimp only at hSw); go_simp; (try with_reducible rfl))
 try simp only [Act.put,List.getElem_toArray,List.getElem_cons_succ,List.getElem_cons_zero,List.setIfInBounds_toArray,List.set_cons_zero,List.set_cons_succ]
 refine' wpAnyH_take (i:=50) (oi:=_) (v:=?v40) rfl (by as_aux_lemma => kernel_rfl) (by as_aux_lemma => kernel_rfl) (by as_aux_lemma => kernel_rfl) (fun _ _ _ h => h) (Or.inl ⟨by rfl,?y40⟩) hH10 ?r40
 case y40 => (intro w hSw; (try dsimp only at hSw); go_simp; (try with_reducible rfl))
 try simp only [Act.put,List.getElem_toArray,List.getElem_cons_succ,List.getElem_cons_zero,List.setIfInBounds_toArray,List.set_cons_zero,List.set_cons_succ]
 refine' wpAnyH_take (i:=51) (oi:=_) (v:=?v41) rfl (by as_aux_lemma => kernel_rfl) (by as_aux_lemma => kernel_rfl) (by as_aux_lemma => kernel_rfl) (fun _ _ _ h => h) (Or.inl ⟨by rfl,?y41⟩) hH10 ?r41
 case y41 => (intro w hSw; (try dsimp only at hSw); go_simp; (try with_reducible rfl))
 try simp only [Act.put,List.getElem_toArray,List.getElem_cons_succ,List.getElem_cons_zero,List.setIfInBounds_toArray,List.set_cons_zero,List.set_cons_succ]
 refine wpAnyH_ready (rs:=[52]) (by as_aux_lemma => kernel_rfl) (by simp) ?_
 refine AllReadyH.cons (o:=_) rfl (fun K hK => ?_) AllReadyH.nil
 go_simp
 refine (Meet_any (some ⟨bL,oL,none⟩) (some ⟨bN,oN,none⟩) _ _ cL cN lK nK _ (HRL.out.keep hH10.1) (HRN.out.keep hH10.1) rfl rfl (by decide) (by decide)).mono ?_
 rw [kMeet]
 rintro _ wz ⟨v7,rfl,ho7,hb⟩
 obtain ⟨A7,c7,rfl,_⟩:=ho7.row
 clear ho7
 refine hK.out _ _ (sK_keep hb hH10) (fun hN => ?_)
 clear hK K hH10
 have hH11:=hN
 clear hN
 try simp only [Act.put,List.getElem_toArray,List.getElem_cons_succ,List.getElem_cons_zero,List.setIfInBounds_toArray,List.set_cons_zero,List.set_cons_succ]
 refine' wpAnyH_take (i:=53) (oi:=_) (v:=?v42) rfl (by as_aux_lemma => kernel_rfl) (by as_aux_lemma => kernel_rfl) (by as_aux_lemma => kernel_rfl) (fun _ _ _ h => h) (Or.inl ⟨by rfl,?y42⟩) hH11 ?r42
 case y42 => (intro w hSw; (try dsimp only at hSw); go_simp; (try with_reducible rfl))
 try simp only [Act.put,List.getElem_toArray,List.getElem_cons_succ,List.getElem_cons_zero,List.setIfInBounds_toArray,List.set_cons_zero,List.set_cons_succ]
 refine' wpAnyH_take (i:=54) (oi:=_) (v:=?v43) rfl (by as_aux_lemma => kernel_rfl) (by as_aux_lemma => kernel_rfl) (by as_aux_lemma => kernel_rfl) (fun _ _ _ h => h) (Or.inl ⟨by rfl,?y43⟩) hH11 ?r43
 case y43 => (intro w hSw; (try dsimp only at hSw); go_simp; (try with_reducible rfl))
 try simp only [Act.put,List.getElem_toArray,List.getElem_cons_succ,List.getElem_cons_zero,List.setIfInBounds_toArray,List.set_cons_zero,List.set_cons_succ]
 refine' wpAnyH_take (i:=55) (oi:=_) (v:=?v44) rfl (by as_aux_lemma => kernel_rfl) (by as_aux_lemma => kernel_rfl) (by as_aux_lemma => kernel_rfl) (fun _ _ _ h => h) (Or.inl ⟨by rfl,?y44⟩) hH11 ?r44
 case y44 => (intro w hSw; (try dsimp only at hSw); go_simp; (try with_reducible rfl))
 try simp only [Act.put,List.getElem_toArray,List.getElem_cons_succ,List.getElem_cons_zero,List.setIfInBounds_toArray,List.set_cons_zero,List.set_cons_succ]
 refine' wpAnyH_take (i:=56) (oi:=_) (v:=?v45) rfl (by as_aux_lemma => kernel_rfl) (by as_aux_lemma => kernel_rfl) (by as_aux_lemma => kernel_rfl) (fun _ _ _ h => h) (Or.inl ⟨by rfl,?y45⟩) hH11 ?r45
 case y45 => (intro w hSw; (try dsimp only at hSw); go_simp; (try with_reducible rfl))
 try simp only [Act.put,List.getElem_toArray,List.getElem_cons_succ,List.getElem_cons_zero,List.setIfInBounds_toArray,List.set_cons_zero,List.set_cons_succ]
 refine' wpAnyH_take (i:=57) (oi:=_) (v:=?v46) rfl (by as_aux_lemma => kernel_rfl) (by as_aux_lemma => kernel_rfl) (by as_aux_lemma => kernel_rfl) (fun _ _ _ h => h) (Or.inl ⟨by rfl,?y46⟩) hH11 ?r46
 case y46 => (intro w hSw; (try dsimp only at hSw); go_simp; (try with_reducible rfl))
 try simp only [Act.put,List.getElem_toArray,List.getElem_cons_succ,List.getElem_cons_zero,List.setIfInBounds_toArray,List.set_cons_zero,List.set_cons_succ]
 refine' wpAnyH_take (i:=58) (oi:=_) (v:=?v47) rfl (by as_aux_lemma => kernel_rfl) (by as_aux_lemma => kernel_rfl) (by as_aux_lemma => kernel_rfl) (fun _ _ _ h => h) (Or.inl ⟨by rfl,?y47⟩) hH11 ?r47
 case y47 => (intro w hSw; (try dsimp only at hSw); go_simp; (try with_reducible rfl))
 try simp only [Act.put,List.getElem_toArray,List.getElem_cons_succ,List.getElem_cons_zero,List.setIfInBounds_toArray,List.set_cons_zero,List.set_cons_succ]
 refine' wpAnyH_take (i:=60) (oi:=_) (v:=?v48) rfl (by as_aux_lemma => kernel_rfl) (by as_aux_lemma => kernel_rfl) (by as_aux_lemma => kernel_rfl) (fun _ _ _ h => h) (Or.inl ⟨by rfl,?y48⟩) hH11 ?r48
 case y48 => (intro w hSw; (try dsimp only at hSw); go_simp; (try with_reducible rfl))
 try simp only [Act.put,List.getElem_toArray,List.getElem_cons_succ,List.getElem_cons_zero,List.setIfInBounds_toArray,List.set_cons_zero,List.set_cons_succ]
 refine wpAnyH_ready (rs:=[59]) (by as_aux_lemma => kernel_rfl) (by simp) ?_
 refine AllReadyH.cons (o:=_) rfl (fun K hK => ?_) AllReadyH.nil
 go_simp
 refine (Minus_any (some ⟨bL,oL,none⟩) (some ⟨bN,oN,none⟩) _ _ cL cN lK nK _ (HRL.out.keep hH11.1) (HRN.out.keep hH11.1) rfl rfl (by decide) (by decide)).mono ?_
 rintro _ wz ⟨v8,rfl,ho8,hb⟩
 obtain ⟨A8,c8,rfl,hr8⟩:=ho8.row
 have HR8:=hide hr8
 clear ho8 hr8
 refine hK.out _ _ (sK_keep hb hH11) (fun hN => ?_)
 clear hK K hH11
 have hH12:=hN
 clear hN
 try simp only [Act.put,List.getElem_toArray,List.getElem_cons_succ,List.getElem_cons_zero,List.setIfInBounds_toArray,List.set_cons_zero,List.set_cons_succ]
 refine wpAnyH_ready (rs:=[61]) (by as_aux_lemma => kernel_rfl) (by simp) ?_
 refine AllReadyH.cons (o:=_) rfl (fun K hK => ?_) AllReadyH.nil
 go_simp
 refine (Same_any A8 (some ⟨bL,oL,none⟩) _ _ c8 cL (minusC lK nK) lK _ HR8.out (HRL.out.keep hH12.1) rfl rfl (Nat.le_trans (minusC_len lK nK) (by decide)) (by decide)).mono ?_
 rw [kMinus,decide_eq_true rfl]
 rintro _ wz ⟨rfl,hb⟩
 refine hK.out _ _ (sK_keep hb hH12) (fun hN => ?_)
 clear hK K hH12
 have hH13:=hN
 clear hN
 try simp only [Act.put,List.getElem_toArray,List.getElem_cons_succ,List.getElem_cons_zero,List.setIfInBounds_toArray,List.set_cons_zero,List.set_cons_succ]
 refine' wpAnyH_take (i:=62) (oi:=_) (v:=?v49) rfl (by as_aux_lemma => kernel_rfl) (by as_aux_lemma => kernel_rfl) (by as_aux_lemma => kernel_rfl) (fun _ _ _ h => h) (Or.inl ⟨by rfl,?y49⟩) hH13 ?r49
 case y49 => (intro w hSw; (try dsimp only at hSw); go_simp; (try with_reducible rfl))
 try simp only [Act.put,List.getElem_toArray,List.getElem_cons_succ,List.getElem_cons_zero,List.setIfInBounds_toArray,List.set_cons_zero,List.set_cons_succ]
 refine' wpAnyH_take (i:=63) (oi:=_) (v:=?v50) rfl (by as_aux_lemma => kernel_rfl) (by as_aux_lemma => kernel_rfl) (by as_aux_lemma => kernel_rfl) (fun _ _ _ h => h) (Or.inl ⟨by rfl,?y50⟩) hH13 ?r50
 case y50 => (intro w hSw; (try dsimp only at hSw); go_simp; (try with_reducible rfl))
 try simp only [Act.put,List.getElem_toArray,List.getElem_cons_succ,List.getElem_cons_zero,List.setIfInBounds_toArray,List.set_cons_zero,List.set_cons_succ]
 refine wpAnyH_done (by as_aux_lemma => kernel_rfl) ?_ _
 have HBE:=hide hH13.1
 clear hH13
 go_wp2_with fail
 go_ret
 exact ⟨rfl,andthen HB.out HBE.out⟩
end Go.Proofs.YtgihekokbgggcaaGreat.S2

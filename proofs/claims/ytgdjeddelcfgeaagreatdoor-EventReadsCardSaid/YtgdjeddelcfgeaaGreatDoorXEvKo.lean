/- Walks of hostelrylaw10: known. -/
import Derived.Test.YtgdjeddelcfgeaaGreatDoorXW13
namespace Go.Proofs.YtgdjeddelcfgeaaGreatDoor
open Go.RowKit Rul Rt Go.Sort

structure KnC (w : World) (m5 : Mem) (W : World) : Prop where
 l : EvL W hourE m5
 below : Below w.heap.size w W
theorem kn_keep {w W W1 : World} {N bA oA : Nat} {m5 : Mem} (hb : Below W.heap.size W W1) (h : W.cell? ⟨N,0,none⟩ = some (.string (str hourE.uid)) ∧ W.cell? ⟨N,1,none⟩ = some (.string (str hourE.text)) ∧ W.cell? ⟨N,2,none⟩ = some (.int .i64 hourE.st) ∧ W.cell? ⟨N,3,none⟩ = some (.int .i64 hourE.lg) ∧ W.cell? ⟨N,4,none⟩ = some (.slice m5.O hourE.rooms.length m5.oc) ∧ W.cell? ⟨N,5,none⟩ = some (.int .i64 hourE.r.fr) ∧ W.cell? ⟨N,6,none⟩ = some (.int .i64 hourE.r.ev) ∧ W.cell? ⟨N,7,none⟩ = some (.int .i64 hourE.r.ct) ∧ W.cell? ⟨N,8,none⟩ = some (.int .i64 hourE.r.un) ∧ W.cell? ⟨N,9,none⟩ = some (.slice m5.D hourE.r.ds.length m5.dc) ∧ W.cell? ⟨N,10,none⟩ = some (.slice m5.M hourE.r.ms.length m5.mc) ∧ W.cell? ⟨N,11,none⟩ = some (.slice m5.Y hourE.r.ys.length m5.yc) ∧ W.cell? ⟨N,12,none⟩ = some (.slice m5.X hourE.ex.length m5.xc) ∧ W.cell? ⟨bA,oA + 2,none⟩ = some (.string ⟨#[68,84,83,84,65,82,84,58,50,48,48,48,48,49,48,49,84,48,49,51,48,48,48]⟩) ∧ KnC w m5 W) : W1.cell? ⟨N,0,none⟩ = some (.string (str hourE.uid)) ∧ W1.cell? ⟨N,1,none⟩ = some (.string (str hourE.text)) ∧ W1.cell? ⟨N,2,none⟩ = some (.int .i64 hourE.st) ∧ W1.cell? ⟨N,3,none⟩ = some (.int .i64 hourE.lg) ∧ W1.cell? ⟨N,4,none⟩ = some (.slice m5.O hourE.rooms.length m5.oc) ∧ W1.cell? ⟨N,5,none⟩ = some (.int .i64 hourE.r.fr) ∧ W1.cell? ⟨N,6,none⟩ = some (.int .i64 hourE.r.ev) ∧ W1.cell? ⟨N,7,none⟩ = some (.int .i64 hourE.r.ct) ∧ W1.cell? ⟨N,8,none⟩ = some (.int .i64 hourE.r.un) ∧ W1.cell? ⟨N,9,none⟩ = some (.slice m5.D hourE.r.ds.length m5.dc) ∧ W1.cell? ⟨N,10,none⟩ = some (.slice m5.M hourE.r.ms.length m5.mc) ∧ W1.cell? ⟨N,11,none⟩ = some (.slice m5.Y hourE.r.ys.length m5.yc) ∧ W1.cell? ⟨N,12,none⟩ = some (.slice m5.X hourE.ex.length m5.xc) ∧ W1.cell? ⟨bA,oA + 2,none⟩ = some (.string ⟨#[68,84,83,84,65,82,84,58,50,48,48,48,48,49,48,49,84,48,49,51,48,48,48]⟩) ∧ KnC w m5 W1:=by
 obtain ⟨c0,c1,c2,c3,c4,c5,c6,c7,c8,c9,c10,c11,c12,c13,h1,h2⟩:=h
 exact ⟨cell_keep hb c0,cell_keep hb c1,cell_keep hb c2,cell_keep hb c3,cell_keep hb c4,cell_keep hb c5,cell_keep hb c6,cell_keep hb c7,cell_keep hb c8,cell_keep hb c9,cell_keep hb c10,cell_keep hb c11,cell_keep hb c12,cell_keep hb c13,h1.keep hb,andthen h2 hb⟩
theorem same_hour (m n : Mem) (w : World) (h : EvL w hourE m) (k : EvL w hourE n) : Calls Tryz.prog 13 #[evV hourE m,evV hourE n] w (Ans w (.bool true)):=(Ev.sameE_self hourE) ▸ eSame_any hourE hourE m n w h k
theorem copy_hour (m : Mem) (w : World) (h : EvL w hourE m) : Calls Tryz.prog 18 #[evV hourE m] w fun x w' => ∃ m,x = .returned (evV hourE m) ∧ EvL w' hourE m ∧ Below w.heap.size w w' :=
 (eCopy_any hourE m w h).mono fun _ _ ⟨m,e,hn,hb⟩ => ⟨m,e,hn.lies,hb⟩
theorem hour_third : ∀ h : 2 < hourL.length,hourL[2] = [68,84,83,84,65,82,84,58,50,48,48,48,48,49,48,49,84,48,49,51,48,48,48]:=fun h => by
 have h2:=hour_lines.2.1
 rwa [List.getD_eq_getElem?_getD,List.getElem?_eq_getElem h] at h2
set_option linter.unusedSimpArgs false in
set_option maxRecDepth 100000 in
set_option maxHeartbeats 4000000 in
theorem known_any (w : World) (he : EnvE w) : Calls Tryz.prog 9 #[] w (Ans w (.bool true)):=by
 have HE:=hide he
 clear he
 go_enter Tryz.func9,Tryz.ntmps9
 go_wp2_with fail
 refine (hour_ex _).mono ?_
 rintro _ w1 ⟨m1,rfl,hl1,hb1⟩
 have HB1:=hide hb1
 have HL1:=hide hl1
 clear hb1 hl1
 go_wp2_with fail
 refine (lines6 m1 _ HL1.out (HE.out.keep HB1.out).e.tab).mono ?_
 rintro _ w2 ⟨A,cap,rfl,hcap,hrow,hb2⟩
 have HB2:=hide (andthen HB1.out hb2)
 have HR2:=hide hrow
 have H6 : Hid (6 = hourL.length):=hide hour_lines.1.symm
 have HK6 : Hid (hourL.length ≤ 1000000):=hide (by rw [hour_lines.1]; decide)
 clear hb2 hrow HL1 HB1
 go_wp2_with (first | (at_builtin; refine wp_copyS (k:=hourL) rfl _ _ rfl rfl rfl H6.out HR2.out HK6.out ?_; intro v3 w3 hown3 hb3; obtain ⟨A3,cap3,rfl,hrow3,_⟩:=OwnS.row hown3; have HB3:=hide hb3; have HO3:=hide hown3; have HZ3:=hide hb3.size) | (at_builtin; refine wp_oneT (l:=hourL) (p:=[120]) rfl _ _ rfl rfl rfl rfl HO3.out HZ3.out HK6.out ?_; intro v4 w4 hown4 hg4; obtain ⟨A4,cap4,rfl,hrow4,_⟩:=OwnS.row hown4; have HR4:=hide hrow4; have HB4:=hide (HB3.out.grown hg4.grown HZ3.out fun k hk => (HO3.out.lt k hk).1)))
 have HB5:=hide (andthen HB2.out HB4.out)
 have h7 : (hourL ++ [[120]]).length = 7:=by rw [List.length_append,hour_lines.1]; rfl
 have HE5:=hide (HE.out.keep HB5.out)
 refine (read7 A4 _ cap4 _ HR4.out HE5.out (by first | exact h7 | (rw [hour_lines.1]))).mono ?_
 rintro _ w5 ⟨m5,rfl,hl5,hb5⟩
 have hnew:=more (start w5) (.cells #[.string (str hourE.uid),.string (str hourE.text),.int .i64 hourE.st,.int .i64 hourE.lg,.slice m5.O hourE.rooms.length m5.oc,.int .i64 hourE.r.fr,.int .i64 hourE.r.ev,.int .i64 hourE.r.ct,.int .i64 hourE.r.un,.slice m5.D hourE.r.ds.length m5.dc,.slice m5.M hourE.r.ms.length m5.mc,.slice m5.Y hourE.r.ys.length m5.yc,.slice m5.X hourE.ex.length m5.xc] 27)
 have hblk:=blk_new w5 #[.string (str hourE.uid),.string (str hourE.text),.int .i64 hourE.st,.int .i64 hourE.lg,.slice m5.O hourE.rooms.length m5.oc,.int .i64 hourE.r.fr,.int .i64 hourE.r.ev,.int .i64 hourE.r.ct,.int .i64 hourE.r.un,.slice m5.D hourE.r.ds.length m5.dc,.slice m5.M hourE.r.ms.length m5.mc,.slice m5.Y hourE.r.ys.length m5.yc,.slice m5.X hourE.ex.length m5.xc] 27
 have HB6:=hide (andthen (andthen HB5 hb5) hnew)
 have HL6:=hide (hl5.keep hnew)
 have HK:=hide hblk
 have HR6:=hide (((HR2.out.keep HB4.out).keep hb5).keep hnew)
 have hc3 : (3 : Int) ≤ (cap : Int):=by omega
 have hc3n : 3 ≤ cap:=by omega
 clear hb3 hown3 hrow3 hown4 hg4 hrow4 HR4 HB4 HB5 h7 HE5 hl5 hb5 hnew hblk HR2 HB2 HB3 HO3 HZ3
 go_wp2_with fail
 refine (read3 A cap _ HR6.out (HE.out.keep HB6.out)).mono ?_
 rintro _ w7 ⟨rfl,hb7⟩
 unfold noEvent
 have HB8:=hide (more (andthen HB6.out hb7) (.cells #[.string ⟨#[]⟩,.string ⟨#[]⟩,.int .i64 0,.int .i64 0,.slice none 0 0,.int .i64 0,.int .i64 0,.int .i64 0,.int .i64 0,.slice none 0 0,.slice none 0 0,.slice none 0 0,.slice none 0 0] 27))
 have HK8:=hide ((HK.out.keep hb7).keep (more (start w7) (.cells #[.string ⟨#[]⟩,.string ⟨#[]⟩,.int .i64 0,.int .i64 0,.slice none 0 0,.int .i64 0,.int .i64 0,.int .i64 0,.int .i64 0,.slice none 0 0,.slice none 0 0,.slice none 0 0,.slice none 0 0] 27)))
 have HL8:=hide ((HL6.out.keep hb7).keep (more (start w7) (.cells #[.string ⟨#[]⟩,.string ⟨#[]⟩,.int .i64 0,.int .i64 0,.slice none 0 0,.int .i64 0,.int .i64 0,.int .i64 0,.int .i64 0,.slice none 0 0,.slice none 0 0,.slice none 0 0,.slice none 0 0] 27)))
 have HR8:=hide ((HR6.out.keep hb7).keep (more (start w7) (.cells #[.string ⟨#[]⟩,.string ⟨#[]⟩,.int .i64 0,.int .i64 0,.slice none 0 0,.int .i64 0,.int .i64 0,.int .i64 0,.int .i64 0,.slice none 0 0,.slice none 0 0,.slice none 0 0,.slice none 0 0] 27)))
 clear HB6 HK HL6 HR6 hb7
 obtain ⟨bA,oA,rfl,hbA,hcA⟩:=HR8.out (by intro h; have:=hour_lines.1; rw [h] at this; cases this)
 have h2l : 2 < hourL.length:=by rw [hour_lines.1]; decide
 have hc2:=hcA 2 h2l
 rw [hour_third h2l] at hc2
 have s0:=HK8.out.cell 0 (by simp)
 have s1:=HK8.out.cell 1 (by simp)
 have s2:=HK8.out.cell 2 (by simp)
 have s3:=HK8.out.cell 3 (by simp)
 have s4:=HK8.out.cell 4 (by simp)
 have s5:=HK8.out.cell 5 (by simp)
 have s6:=HK8.out.cell 6 (by simp)
 have s7:=HK8.out.cell 7 (by simp)
 have s8:=HK8.out.cell 8 (by simp)
 have s9:=HK8.out.cell 9 (by simp)
 have s10:=HK8.out.cell 10 (by simp)
 have s11:=HK8.out.cell 11 (by simp)
 have s12:=HK8.out.cell 12 (by simp)
 simp only [List.getElem_cons_zero,List.getElem_cons_succ] at s0 s1 s2 s3 s4 s5 s6 s7 s8 s9 s10 s11 s12
 have HL9:=HL8
 have HB9:=HB8
 clear HR8 hcA hbA HK8 HL8 HB8
 go_wp2_with fail
 have hS:=And.intro s0 (And.intro s1 (And.intro s2 (And.intro s3 (And.intro s4 (And.intro s5 (And.intro s6 (And.intro s7 (And.intro s8 (And.intro s9 (And.intro s10 (And.intro s11 (And.intro s12 (And.intro hc2 (KnC.mk (w:=w) HL9.out HB9.out))))))))))))))
 clear s0 s1 s2 s3 s4 s5 s6 s7 s8 s9 s10 s11 s12 hc2 HL9 HB9
 refine wp_region_held_drew (S:=(fun w' => w'.cell? ⟨w5.heap.size,0,none⟩ = some (.string (str hourE.uid)) ∧ w'.cell? ⟨w5.heap.size,1,none⟩ = some (.string (str hourE.text)) ∧ w'.cell? ⟨w5.heap.size,2,none⟩ = some (.int .i64 hourE.st) ∧ w'.cell? ⟨w5.heap.size,3,none⟩ = some (.int .i64 hourE.lg) ∧ w'.cell? ⟨w5.heap.size,4,none⟩ = some (.slice m5.O hourE.rooms.length m5.oc) ∧ w'.cell? ⟨w5.heap.size,5,none⟩ = some (.int .i64 hourE.r.fr) ∧ w'.cell? ⟨w5.heap.size,6,none⟩ = some (.int .i64 hourE.r.ev) ∧ w'.cell? ⟨w5.heap.size,7,none⟩ = some (.int .i64 hourE.r.ct) ∧ w'.cell? ⟨w5.heap.size,8,none⟩ = some (.int .i64 hourE.r.un) ∧ w'.cell? ⟨w5.heap.size,9,none⟩ = some (.slice m5.D hourE.r.ds.length m5.dc) ∧ w'.cell? ⟨w5.heap.size,10,none⟩ = some (.slice m5.M hourE.r.ms.length m5.mc) ∧ w'.cell? ⟨w5.heap.size,11,none⟩ = some (.slice m5.Y hourE.r.ys.length m5.yc) ∧ w'.cell? ⟨w5.heap.size,12,none⟩ = some (.slice m5.X hourE.ex.length m5.xc) ∧ w'.cell? ⟨bA,oA + 2,none⟩ = some (.string ⟨#[68,84,83,84,65,82,84,58,50,48,48,48,48,49,48,49,84,48,49,51,48,48,48]⟩) ∧ KnC w m5 w')) (by kernel_rfl) ?_ (fun hH0 => ?_)
 ·exact kn_keep (Below.drew (start _)) hS
 refine' wpAnyH_take (i:=0) (oi:=_) (v:=?v0) rfl (by as_aux_lemma => kernel_rfl) (by as_aux_lemma => kernel_rfl) (by as_aux_lemma => kernel_rfl) (fun _ _ _ h => h) (Or.inl ⟨by rfl,?y0⟩) hH0 ?r0
 case y0 => (intro w hSw; (try dsimp only at hSw); go_simp; (try with_reducible rfl))
 try simp only [Act.put,List.getElem_toArray,List.getElem_cons_succ,List.getElem_cons_zero,List.setIfInBounds_toArray,List.set_cons_zero,List.set_cons_succ]
 refine' wpAnyH_take (i:=1) (oi:=_) (v:=?v1) rfl (by as_aux_lemma => kernel_rfl) (by as_aux_lemma => kernel_rfl) (by as_aux_lemma => kernel_rfl) (fun _ _ _ h => h) (Or.inl ⟨by rfl,?y1⟩) hH0 ?r1
 case y1 => (intro w hSw; (try dsimp only at hSw); go_simp; (try with_reducible rfl))
 try simp only [Act.put,List.getElem_toArray,List.getElem_cons_succ,List.getElem_cons_zero,List.setIfInBounds_toArray,List.set_cons_zero,List.set_cons_succ]
 refine' wpAnyH_take (i:=2) (oi:=_) (v:=?v2) rfl (by as_aux_lemma => kernel_rfl) (by as_aux_lemma => kernel_rfl) (by as_aux_lemma => kernel_rfl) (fun _ _ _ h => h) (Or.inl ⟨by rfl,?y2⟩) hH0 ?r2
 case y2 => (intro w hSw; (try dsimp only at hSw); go_simp; (try with_reducible rfl))
 try simp only [Act.put,List.getElem_toArray,List.getElem_cons_succ,List.getElem_cons_zero,List.setIfInBounds_toArray,List.set_cons_zero,List.set_cons_succ]
 refine' wpAnyH_take (i:=3) (oi:=_) (v:=?v3) rfl (by as_aux_lemma => kernel_rfl) (by as_aux_lemma => kernel_rfl) (by as_aux_lemma => kernel_rfl) (fun _ _ _ h => h) (Or.inl ⟨by rfl,?y3⟩) hH0 ?r3
 case y3 => (intro w hSw; (try dsimp only at hSw); go_simp; (try with_reducible rfl))
 try simp only [Act.put,List.getElem_toArray,List.getElem_cons_succ,List.getElem_cons_zero,List.setIfInBounds_toArray,List.set_cons_zero,List.set_cons_succ]
 refine' wpAnyH_take (i:=4) (oi:=_) (v:=?v4) rfl (by as_aux_lemma => kernel_rfl) (by as_aux_lemma => kernel_rfl) (by as_aux_lemma => kernel_rfl) (fun _ _ _ h => h) (Or.inl ⟨by rfl,?y4⟩) hH0 ?r4
 case y4 => (intro w hSw; (try dsimp only at hSw); go_simp; (try with_reducible rfl))
 try simp only [Act.put,List.getElem_toArray,List.getElem_cons_succ,List.getElem_cons_zero,List.setIfInBounds_toArray,List.set_cons_zero,List.set_cons_succ]
 refine' wpAnyH_take (i:=5) (oi:=_) (v:=?v5) rfl (by as_aux_lemma => kernel_rfl) (by as_aux_lemma => kernel_rfl) (by as_aux_lemma => kernel_rfl) (fun _ _ _ h => h) (Or.inl ⟨by rfl,?y5⟩) hH0 ?r5
 case y5 => (intro w hSw; (try dsimp only at hSw); go_simp; (try with_reducible rfl))
 try simp only [Act.put,List.getElem_toArray,List.getElem_cons_succ,List.getElem_cons_zero,List.setIfInBounds_toArray,List.set_cons_zero,List.set_cons_succ]
 refine' wpAnyH_take (i:=6) (oi:=_) (v:=?v6) rfl (by as_aux_lemma => kernel_rfl) (by as_aux_lemma => kernel_rfl) (by as_aux_lemma => kernel_rfl) (fun _ _ _ h => h) (Or.inl ⟨by rfl,?y6⟩) hH0 ?r6
 case y6 => (intro w hSw; (try dsimp only at hSw); go_simp; (try with_reducible rfl))
 try simp only [Act.put,List.getElem_toArray,List.getElem_cons_succ,List.getElem_cons_zero,List.setIfInBounds_toArray,List.set_cons_zero,List.set_cons_succ]
 refine' wpAnyH_take (i:=7) (oi:=_) (v:=?v7) rfl (by as_aux_lemma => kernel_rfl) (by as_aux_lemma => kernel_rfl) (by as_aux_lemma => kernel_rfl) (fun _ _ _ h => h) (Or.inl ⟨by rfl,?y7⟩) hH0 ?r7
 case y7 => (intro w hSw; (try dsimp only at hSw); go_simp; (try with_reducible rfl))
 try simp only [Act.put,List.getElem_toArray,List.getElem_cons_succ,List.getElem_cons_zero,List.setIfInBounds_toArray,List.set_cons_zero,List.set_cons_succ]
 refine' wpAnyH_take (i:=8) (oi:=_) (v:=?v8) rfl (by as_aux_lemma => kernel_rfl) (by as_aux_lemma => kernel_rfl) (by as_aux_lemma => kernel_rfl) (fun _ _ _ h => h) (Or.inl ⟨by rfl,?y8⟩) hH0 ?r8
 case y8 => (intro w hSw; (try dsimp only at hSw); go_simp; (try with_reducible rfl))
 try simp only [Act.put,List.getElem_toArray,List.getElem_cons_succ,List.getElem_cons_zero,List.setIfInBounds_toArray,List.set_cons_zero,List.set_cons_succ]
 refine' wpAnyH_take (i:=9) (oi:=_) (v:=?v9) rfl (by as_aux_lemma => kernel_rfl) (by as_aux_lemma => kernel_rfl) (by as_aux_lemma => kernel_rfl) (fun _ _ _ h => h) (Or.inl ⟨by rfl,?y9⟩) hH0 ?r9
 case y9 => (intro w hSw; (try dsimp only at hSw); go_simp; (try with_reducible rfl))
 try simp only [Act.put,List.getElem_toArray,List.getElem_cons_succ,List.getElem_cons_zero,List.setIfInBounds_toArray,List.set_cons_zero,List.set_cons_succ]
 refine' wpAnyH_take (i:=10) (oi:=_) (v:=?v10) rfl (by as_aux_lemma => kernel_rfl) (by as_aux_lemma => kernel_rfl) (by as_aux_lemma => kernel_rfl) (fun _ _ _ h => h) (Or.inl ⟨by rfl,?y10⟩) hH0 ?r10
 case y10 => (intro w hSw; (try dsimp only at hSw); go_simp; (try with_reducible rfl))
 try simp only [Act.put,List.getElem_toArray,List.getElem_cons_succ,List.getElem_cons_zero,List.setIfInBounds_toArray,List.set_cons_zero,List.set_cons_succ]
 refine' wpAnyH_take (i:=11) (oi:=_) (v:=?v11) rfl (by as_aux_lemma => kernel_rfl) (by as_aux_lemma => kernel_rfl) (by as_aux_lemma => kernel_rfl) (fun _ _ _ h => h) (Or.inl ⟨by rfl,?y11⟩) hH0 ?r11
 case y11 => (intro w hSw; (try dsimp only at hSw); go_simp; (try with_reducible rfl))
 try simp only [Act.put,List.getElem_toArray,List.getElem_cons_succ,List.getElem_cons_zero,List.setIfInBounds_toArray,List.set_cons_zero,List.set_cons_succ]
 refine' wpAnyH_take (i:=12) (oi:=_) (v:=?v12) rfl (by as_aux_lemma => kernel_rfl) (by as_aux_lemma => kernel_rfl) (by as_aux_lemma => kernel_rfl) (fun _ _ _ h => h) (Or.inl ⟨by rfl,?y12⟩) hH0 ?r12
 case y12 => (intro w hSw; (try dsimp only at hSw); go_simp; (try with_reducible rfl))
 try simp only [Act.put,List.getElem_toArray,List.getElem_cons_succ,List.getElem_cons_zero,List.setIfInBounds_toArray,List.set_cons_zero,List.set_cons_succ]
 refine' wpAnyH_take (i:=13) (oi:=_) (v:=?v13) rfl (by as_aux_lemma => kernel_rfl) (by as_aux_lemma => kernel_rfl) (by as_aux_lemma => kernel_rfl) (fun _ _ _ h => h) (Or.inl ⟨by rfl,?y13⟩) hH0 ?r13
 case y13 => (intro w hSw; (try dsimp only at hSw); go_simp; (try with_reducible rfl))
 try simp only [Act.put,List.getElem_toArray,List.getElem_cons_succ,List.getElem_cons_zero,List.setIfInBounds_toArray,List.set_cons_zero,List.set_cons_succ]
 refine' wpAnyH_take (i:=14) (oi:=_) (v:=?v14) rfl (by as_aux_lemma => kernel_rfl) (by as_aux_lemma => kernel_rfl) (by as_aux_lemma => kernel_rfl) (fun _ _ _ h => h) (Or.inl ⟨by rfl,?y14⟩) hH0 ?r14
 case y14 => (intro w hSw; (try dsimp only at hSw); go_simp; (try with_reducible rfl))
 try simp only [Act.put,List.getElem_toArray,List.getElem_cons_succ,List.getElem_cons_zero,List.setIfInBounds_toArray,List.set_cons_zero,List.set_cons_succ]
 refine' wpAnyH_take (i:=15) (oi:=_) (v:=?v15) rfl (by as_aux_lemma => kernel_rfl) (by as_aux_lemma => kernel_rfl) (by as_aux_lemma => kernel_rfl) (fun _ _ _ h => h) (Or.inl ⟨by rfl,?y15⟩) hH0 ?r15
 case y15 => (intro w hSw; (try dsimp only at hSw); go_simp; (try with_reducible rfl))
 try simp only [Act.put,List.getElem_toArray,List.getElem_cons_succ,List.getElem_cons_zero,List.setIfInBounds_toArray,List.set_cons_zero,List.set_cons_succ]
 refine' wpAnyH_take (i:=16) (oi:=_) (v:=?v16) rfl (by as_aux_lemma => kernel_rfl) (by as_aux_lemma => kernel_rfl) (by as_aux_lemma => kernel_rfl) (fun _ _ _ h => h) (Or.inl ⟨by rfl,?y16⟩) hH0 ?r16
 case y16 => (intro w hSw; (try dsimp only at hSw); go_simp; (try with_reducible rfl))
 try simp only [Act.put,List.getElem_toArray,List.getElem_cons_succ,List.getElem_cons_zero,List.setIfInBounds_toArray,List.set_cons_zero,List.set_cons_succ]
 refine' wpAnyH_take (i:=17) (oi:=_) (v:=?v17) rfl (by as_aux_lemma => kernel_rfl) (by as_aux_lemma => kernel_rfl) (by as_aux_lemma => kernel_rfl) (fun _ _ _ h => h) (Or.inl ⟨by rfl,?y17⟩) hH0 ?r17
 case y17 => (intro w hSw; (try dsimp only at hSw); go_simp; (try with_reducible rfl))
 try simp only [Act.put,List.getElem_toArray,List.getElem_cons_succ,List.getElem_cons_zero,List.setIfInBounds_toArray,List.set_cons_zero,List.set_cons_succ]
 refine' wpAnyH_take (i:=18) (oi:=_) (v:=?v18) rfl (by as_aux_lemma => kernel_rfl) (by as_aux_lemma => kernel_rfl) (by as_aux_lemma => kernel_rfl) (fun _ _ _ h => h) (Or.inl ⟨by rfl,?y18⟩) hH0 ?r18
 case y18 => (intro w hSw; (try dsimp only at hSw); go_simp; (try with_reducible rfl))
 try simp only [Act.put,List.getElem_toArray,List.getElem_cons_succ,List.getElem_cons_zero,List.setIfInBounds_toArray,List.set_cons_zero,List.set_cons_succ]
 refine wpAnyH_ready (rs:=[19]) (by as_aux_lemma => kernel_rfl) (by simp) ?_
 refine AllReadyH.cons (o:=_) rfl (fun K hK => ?_) AllReadyH.nil
 go_simp
 refine (hour_ex _).mono ?_
 rintro e wa ⟨ma,rfl,hla,hb⟩
 have HA:=hide hla
 refine hK.out _ _ (kn_keep hb hH0) (fun hN => ?_)
 clear hK K hH0
 have hH1:=hN
 clear hN
 try simp only [Act.put,List.getElem_toArray,List.getElem_cons_succ,List.getElem_cons_zero,List.setIfInBounds_toArray,List.set_cons_zero,List.set_cons_succ]
 refine wpAnyH_ready (rs:=[20]) (by as_aux_lemma => kernel_rfl) (by simp) ?_
 refine AllReadyH.cons (o:=_) rfl (fun K hK => ?_) AllReadyH.nil
 go_simp
 refine (same_hour m5 ma _ hH1.2.2.2.2.2.2.2.2.2.2.2.2.2.2.l HA.out).mono ?_
 rintro e wb ⟨rfl,hb⟩
 refine hK.out _ _ (kn_keep hb hH1) (fun hN => ?_)
 clear hK K hH1
 have hH2:=hN
 clear hN
 try simp only [Act.put,List.getElem_toArray,List.getElem_cons_succ,List.getElem_cons_zero,List.setIfInBounds_toArray,List.set_cons_zero,List.set_cons_succ]
 refine' wpAnyH_take (i:=21) (oi:=_) (v:=?v19) rfl (by as_aux_lemma => kernel_rfl) (by as_aux_lemma => kernel_rfl) (by as_aux_lemma => kernel_rfl) (fun _ _ _ h => h) (Or.inl ⟨by rfl,?y19⟩) hH2 ?r19
 case y19 => (intro w hSw; (try dsimp only at hSw); go_simp; (try with_reducible rfl))
 try simp only [Act.put,List.getElem_toArray,List.getElem_cons_succ,List.getElem_cons_zero,List.setIfInBounds_toArray,List.set_cons_zero,List.set_cons_succ]
 refine' wpAnyH_take (i:=22) (oi:=_) (v:=?v20) rfl (by as_aux_lemma => kernel_rfl) (by as_aux_lemma => kernel_rfl) (by as_aux_lemma => kernel_rfl) (fun _ _ _ h => h) (Or.inl ⟨by rfl,?y20⟩) hH2 ?r20
 case y20 => (intro w hSw; (try dsimp only at hSw); go_simp; (try with_reducible rfl))
 try simp only [Act.put,List.getElem_toArray,List.getElem_cons_succ,List.getElem_cons_zero,List.setIfInBounds_toArray,List.set_cons_zero,List.set_cons_succ]
 refine' wpAnyH_take (i:=23) (oi:=_) (v:=?v21) rfl (by as_aux_lemma => kernel_rfl) (by as_aux_lemma => kernel_rfl) (by as_aux_lemma => kernel_rfl) (fun _ _ _ h => h) (Or.inl ⟨by rfl,?y21⟩) hH2 ?r21
 case y21 => (intro w hSw; (try dsimp only at hSw); go_simp; (try with_reducible rfl))
 try simp only [Act.put,List.getElem_toArray,List.getElem_cons_succ,List.getElem_cons_zero,List.setIfInBounds_toArray,List.set_cons_zero,List.set_cons_succ]
 refine' wpAnyH_take (i:=24) (oi:=_) (v:=?v22) rfl (by as_aux_lemma => kernel_rfl) (by as_aux_lemma => kernel_rfl) (by as_aux_lemma => kernel_rfl) (fun _ _ _ h => h) (Or.inl ⟨by rfl,?y22⟩) hH2 ?r22
 case y22 => (intro w hSw; (try dsimp only at hSw); go_simp; (try with_reducible rfl))
 try simp only [Act.put,List.getElem_toArray,List.getElem_cons_succ,List.getElem_cons_zero,List.setIfInBounds_toArray,List.set_cons_zero,List.set_cons_succ]
 refine' wpAnyH_take (i:=25) (oi:=_) (v:=?v23) rfl (by as_aux_lemma => kernel_rfl) (by as_aux_lemma => kernel_rfl) (by as_aux_lemma => kernel_rfl) (fun _ _ _ h => h) (Or.inl ⟨by rfl,?y23⟩) hH2 ?r23
 case y23 => (intro w hSw; (try dsimp only at hSw); go_simp; (try with_reducible rfl))
 try simp only [Act.put,List.getElem_toArray,List.getElem_cons_succ,List.getElem_cons_zero,List.setIfInBounds_toArray,List.set_cons_zero,List.set_cons_succ]
 refine' wpAnyH_take (i:=26) (oi:=_) (v:=?v24) rfl (by as_aux_lemma => kernel_rfl) (by as_aux_lemma => kernel_rfl) (by as_aux_lemma => kernel_rfl) (fun _ _ _ h => h) (Or.inl ⟨by rfl,?y24⟩) hH2 ?r24
 case y24 => (intro w hSw; (try dsimp only at hSw); go_simp; (try with_reducible rfl))
 try simp only [Act.put,List.getElem_toArray,List.getElem_cons_succ,List.getElem_cons_zero,List.setIfInBounds_toArray,List.set_cons_zero,List.set_cons_succ]
 refine' wpAnyH_take (i:=27) (oi:=_) (v:=?v25) rfl (by as_aux_lemma => kernel_rfl) (by as_aux_lemma => kernel_rfl) (by as_aux_lemma => kernel_rfl) (fun _ _ _ h => h) (Or.inl ⟨by rfl,?y25⟩) hH2 ?r25
 case y25 => (intro w hSw; (try dsimp only at hSw); go_simp; (try with_reducible rfl))
 try simp only [Act.put,List.getElem_toArray,List.getElem_cons_succ,List.getElem_cons_zero,List.setIfInBounds_toArray,List.set_cons_zero,List.set_cons_succ]
 refine' wpAnyH_take (i:=28) (oi:=_) (v:=?v26) rfl (by as_aux_lemma => kernel_rfl) (by as_aux_lemma => kernel_rfl) (by as_aux_lemma => kernel_rfl) (fun _ _ _ h => h) (Or.inl ⟨by rfl,?y26⟩) hH2 ?r26
 case y26 => (intro w hSw; (try dsimp only at hSw); go_simp; (try with_reducible rfl))
 try simp only [Act.put,List.getElem_toArray,List.getElem_cons_succ,List.getElem_cons_zero,List.setIfInBounds_toArray,List.set_cons_zero,List.set_cons_succ]
 refine' wpAnyH_take (i:=29) (oi:=_) (v:=?v27) rfl (by as_aux_lemma => kernel_rfl) (by as_aux_lemma => kernel_rfl) (by as_aux_lemma => kernel_rfl) (fun _ _ _ h => h) (Or.inl ⟨by rfl,?y27⟩) hH2 ?r27
 case y27 => (intro w hSw; (try dsimp only at hSw); go_simp; (try with_reducible rfl))
 try simp only [Act.put,List.getElem_toArray,List.getElem_cons_succ,List.getElem_cons_zero,List.setIfInBounds_toArray,List.set_cons_zero,List.set_cons_succ]
 refine' wpAnyH_take (i:=30) (oi:=_) (v:=?v28) rfl (by as_aux_lemma => kernel_rfl) (by as_aux_lemma => kernel_rfl) (by as_aux_lemma => kernel_rfl) (fun _ _ _ h => h) (Or.inl ⟨by rfl,?y28⟩) hH2 ?r28
 case y28 => (intro w hSw; (try dsimp only at hSw); go_simp; (try with_reducible rfl))
 try simp only [Act.put,List.getElem_toArray,List.getElem_cons_succ,List.getElem_cons_zero,List.setIfInBounds_toArray,List.set_cons_zero,List.set_cons_succ]
 refine wpAnyH_ready (rs:=[31]) (by as_aux_lemma => kernel_rfl) (by simp) ?_
 refine AllReadyH.cons (o:=_) rfl (fun K hK => ?_) AllReadyH.nil
 go_simp
 refine (hour_ex _).mono ?_
 rintro e wc ⟨mc,rfl,hlc,hb⟩
 have HC:=hide hlc
 refine hK.out _ _ (kn_keep hb hH2) (fun hN => ?_)
 clear hK K hH2
 have hH3:=hN
 clear hN
 try simp only [Act.put,List.getElem_toArray,List.getElem_cons_succ,List.getElem_cons_zero,List.setIfInBounds_toArray,List.set_cons_zero,List.set_cons_succ]
 refine wpAnyH_ready (rs:=[32]) (by as_aux_lemma => kernel_rfl) (by simp) ?_
 refine AllReadyH.cons (o:=_) rfl (fun K hK => ?_) AllReadyH.nil
 go_simp
 refine (is_hour mc _ HC.out).mono ?_
 rintro e wd ⟨rfl,hb⟩
 refine hK.out _ _ (kn_keep hb hH3) (fun hN => ?_)
 clear hK K hH3
 have hH4:=hN
 clear hN
 try simp only [Act.put,List.getElem_toArray,List.getElem_cons_succ,List.getElem_cons_zero,List.setIfInBounds_toArray,List.set_cons_zero,List.set_cons_succ]
 refine' wpAnyH_take (i:=33) (oi:=_) (v:=?v29) rfl (by as_aux_lemma => kernel_rfl) (by as_aux_lemma => kernel_rfl) (by as_aux_lemma => kernel_rfl) (fun _ _ _ h => h) (Or.inl ⟨by rfl,?y29⟩) hH4 ?r29
 case y29 => (intro w hSw; (try dsimp only at hSw); go_simp; (try with_reducible rfl))
 try simp only [Act.put,List.getElem_toArray,List.getElem_cons_succ,List.getElem_cons_zero,List.setIfInBounds_toArray,List.set_cons_zero,List.set_cons_succ]
 refine' wpAnyH_take (i:=34) (oi:=_) (v:=?v30) rfl (by as_aux_lemma => kernel_rfl) (by as_aux_lemma => kernel_rfl) (by as_aux_lemma => kernel_rfl) (fun _ _ _ h => h) (Or.inl ⟨by rfl,?y30⟩) hH4 ?r30
 case y30 => (intro w hSw; (try dsimp only at hSw); go_simp; (try with_reducible rfl))
 try simp only [Act.put,List.getElem_toArray,List.getElem_cons_succ,List.getElem_cons_zero,List.setIfInBounds_toArray,List.set_cons_zero,List.set_cons_succ]
 refine' wpAnyH_take (i:=35) (oi:=_) (v:=?v31) rfl (by as_aux_lemma => kernel_rfl) (by as_aux_lemma => kernel_rfl) (by as_aux_lemma => kernel_rfl) (fun _ _ _ h => h) (Or.inl ⟨by rfl,?y31⟩) hH4 ?r31
 case y31 => (intro w hSw; (try dsimp only at hSw); go_simp; (try with_reducible rfl))
 try simp only [Act.put,List.getElem_toArray,List.getElem_cons_succ,List.getElem_cons_zero,List.setIfInBounds_toArray,List.set_cons_zero,List.set_cons_succ]
 refine wpAnyH_ready (rs:=[36]) (by as_aux_lemma => kernel_rfl) (by simp) ?_
 refine AllReadyH.cons (o:=_) rfl (fun K hK => ?_) AllReadyH.nil
 go_simp
 refine (is_zero _).mono ?_
 rintro e we ⟨rfl,hb⟩
 refine hK.out _ _ (kn_keep hb hH4) (fun hN => ?_)
 clear hK K hH4
 have hH5:=hN
 clear hN
 try simp only [Act.put,List.getElem_toArray,List.getElem_cons_succ,List.getElem_cons_zero,List.setIfInBounds_toArray,List.set_cons_zero,List.set_cons_succ]
 refine' wpAnyH_take (i:=37) (oi:=_) (v:=?v32) rfl (by as_aux_lemma => kernel_rfl) (by as_aux_lemma => kernel_rfl) (by as_aux_lemma => kernel_rfl) (fun _ _ _ h => h) (Or.inl ⟨by rfl,?y32⟩) hH5 ?r32
 case y32 => (intro w hSw; (try dsimp only at hSw); go_simp; (try with_reducible rfl))
 try simp only [Act.put,List.getElem_toArray,List.getElem_cons_succ,List.getElem_cons_zero,List.setIfInBounds_toArray,List.set_cons_zero,List.set_cons_succ]
 refine' wpAnyH_take (i:=38) (oi:=_) (v:=?v33) rfl (by as_aux_lemma => kernel_rfl) (by as_aux_lemma => kernel_rfl) (by as_aux_lemma => kernel_rfl) (fun _ _ _ h => h) (Or.inl ⟨by rfl,?y33⟩) hH5 ?r33
 case y33 => (intro w hSw; (try dsimp only at hSw); go_simp; (try with_reducible rfl))
 try simp only [Act.put,List.getElem_toArray,List.getElem_cons_succ,List.getElem_cons_zero,List.setIfInBounds_toArray,List.set_cons_zero,List.set_cons_succ]
 refine' wpAnyH_take (i:=39) (oi:=_) (v:=?v34) rfl (by as_aux_lemma => kernel_rfl) (by as_aux_lemma => kernel_rfl) (by as_aux_lemma => kernel_rfl) (fun _ _ _ h => h) (Or.inl ⟨by rfl,?y34⟩) hH5 ?r34
 case y34 => (intro w hSw; (try dsimp only at hSw); go_simp; (try with_reducible rfl))
 try simp only [Act.put,List.getElem_toArray,List.getElem_cons_succ,List.getElem_cons_zero,List.setIfInBounds_toArray,List.set_cons_zero,List.set_cons_succ]
 refine wpAnyH_ready (rs:=[40]) (by as_aux_lemma => kernel_rfl) (by simp) ?_
 refine AllReadyH.cons (o:=_) rfl (fun K hK => ?_) AllReadyH.nil
 go_simp
 refine (hour_ex _).mono ?_
 rintro e wf ⟨mf,rfl,hlf,hb⟩
 have HF:=hide hlf
 refine hK.out _ _ (kn_keep hb hH5) (fun hN => ?_)
 clear hK K hH5
 have hH6:=hN
 clear hN
 try simp only [Act.put,List.getElem_toArray,List.getElem_cons_succ,List.getElem_cons_zero,List.setIfInBounds_toArray,List.set_cons_zero,List.set_cons_succ]
 refine wpAnyH_ready (rs:=[41]) (by as_aux_lemma => kernel_rfl) (by simp) ?_
 refine AllReadyH.cons (o:=_) rfl (fun K hK => ?_) AllReadyH.nil
 go_simp
 refine (copy_hour mf _ HF.out).mono ?_
 rintro e wg ⟨mg,rfl,hlg,hb⟩
 have HG:=hide hlg
 refine hK.out _ _ (kn_keep hb hH6) (fun hN => ?_)
 clear hK K hH6
 have hH7:=hN
 clear hN
 try simp only [Act.put,List.getElem_toArray,List.getElem_cons_succ,List.getElem_cons_zero,List.setIfInBounds_toArray,List.set_cons_zero,List.set_cons_succ]
 refine wpAnyH_ready (rs:=[42]) (by as_aux_lemma => kernel_rfl) (by simp) ?_
 refine AllReadyH.cons (o:=_) rfl (fun K hK => ?_) AllReadyH.nil
 go_simp
 refine (hour_ex _).mono ?_
 rintro e wh ⟨mh,rfl,hlh,hb⟩
 have HZZ:=hide hlh
 replace HG:=hide (HG.out.keep hb)
 refine hK.out _ _ (kn_keep hb hH7) (fun hN => ?_)
 clear hK K hH7
 have hH8:=hN
 clear hN
 try simp only [Act.put,List.getElem_toArray,List.getElem_cons_succ,List.getElem_cons_zero,List.setIfInBounds_toArray,List.set_cons_zero,List.set_cons_succ]
 refine wpAnyH_ready (rs:=[43]) (by as_aux_lemma => kernel_rfl) (by simp) ?_
 refine AllReadyH.cons (o:=_) rfl (fun K hK => ?_) AllReadyH.nil
 go_simp
 refine (same_hour mg mh _ HG.out HZZ.out).mono ?_
 rintro e wi ⟨rfl,hb⟩
 refine hK.out _ _ (kn_keep hb hH8) (fun hN => ?_)
 clear hK K hH8
 have hH9:=hN
 clear hN
 try simp only [Act.put,List.getElem_toArray,List.getElem_cons_succ,List.getElem_cons_zero,List.setIfInBounds_toArray,List.set_cons_zero,List.set_cons_succ]
 refine' wpAnyH_take (i:=44) (oi:=_) (v:=?v35) rfl (by as_aux_lemma => kernel_rfl) (by as_aux_lemma => kernel_rfl) (by as_aux_lemma => kernel_rfl) (fun _ _ _ h => h) (Or.inl ⟨by rfl,?y35⟩) hH9 ?r35
 case y35 => (intro w hSw; (try dsimp only at hSw); go_simp; (try with_reducible rfl))
 try simp only [Act.put,List.getElem_toArray,List.getElem_cons_succ,List.getElem_cons_zero,List.setIfInBounds_toArray,List.set_cons_zero,List.set_cons_succ]
 refine' wpAnyH_take (i:=45) (oi:=_) (v:=?v36) rfl (by as_aux_lemma => kernel_rfl) (by as_aux_lemma => kernel_rfl) (by as_aux_lemma => kernel_rfl) (fun _ _ _ h => h) (Or.inl ⟨by rfl,?y36⟩) hH9 ?r36
 case y36 => (intro w hSw; (try dsimp only at hSw); go_simp; (try with_reducible rfl))
 try simp only [Act.put,List.getElem_toArray,List.getElem_cons_succ,List.getElem_cons_zero,List.setIfInBounds_toArray,List.set_cons_zero,List.set_cons_succ]
 refine wpAnyH_done (by as_aux_lemma => kernel_rfl) ?_ _
 have hfin:=hH9.2.2.2.2.2.2.2.2.2.2.2.2.2.2.below
 go_wp2_with fail
 go_ret
 exact ⟨rfl,hfin⟩

end Go.Proofs.YtgdjeddelcfgeaaGreatDoor

/- ClaimTurns. Written by recipes/cl12.py. -/
import Derived.Test.YtgihekokbgggcaaGreatZClQ
import Derived.Test.YtgihekokbgggcaaGreatZClMiM
namespace Go.Proofs.YtgihekokbgggcaaGreat.S2
open Go.RowKit Spn Cl

theorem turn_has (l : List C) (k : Nat) (r x : Int) : HasC (l.drop k ++ l.take k) r x ↔ HasC l r x := by
  rw [hasC_append, Or.comm, ← hasC_append, List.take_append_drop]
theorem turn_neat (l : List C) (k : Nat) : neatC (l.drop k ++ l.take k) = neatC l := neatC_ext fun r _ x => turn_has l k r x
theorem turn_meet (l m : List C) (k : Nat) : meetC m (l.drop k ++ l.take k) = meetC l m := meetC_ext fun r _ x => by rw [turn_has, and_comm]
theorem turn_minus (l m : List C) : neatC (minusC l (minusC l m)) = neatC (meetC l m) := neatC_ext fun r hr x => by
  rw [minusC_has _ _ r hr, minusC_has _ _ r hr, meetC_has _ _ r hr]
  by_cases h1 : HasC l r x <;> by_cases h2 : HasC m r x <;> simp [h1, h2]
theorem row_dropC {w : World} {b off : Nat} {l : List C} (k : Nat) (h : RowC w (some ⟨b, off, none⟩) l) : RowC w (some ⟨b, off + k * 3, none⟩) (l.drop k) := fun hn => by
  obtain ⟨b', off', e, hb, hc⟩ := h (by rintro rfl; simp at hn)
  injection e with e; injection e with e1 e2 _
  subst e1 e2
  refine ⟨b, off + k * 3, rfl, hb, fun i hi => ?_⟩
  rw [List.length_drop] at hi
  have := hc (k + i) (by omega)
  rw [List.getElem_drop, show off + k * 3 + i * 3 = off + (k + i) * 3 by omega]
  exact this
theorem row_takeC {w : World} {b off : Nat} {l : List C} (k : Nat) (h : RowC w (some ⟨b, off, none⟩) l) : RowC w (some ⟨b, off, none⟩) (l.take k) := fun hn => by
  obtain ⟨b', off', e, hb, hc⟩ := h (by rintro rfl; simp at hn)
  injection e with e; injection e with e1 e2 _
  subst e1 e2
  refine ⟨b, off, rfl, hb, fun i hi => ?_⟩
  rw [List.length_take] at hi
  rw [List.getElem_take]
  exact hc i (by omega)

set_option maxRecDepth 100000 in
set_option maxHeartbeats 4000000 in
theorem tu12_few (A B : Option Addr) (c d : Nat) (l m : List C) (t : Int) (w : World) (hn : l.length ≤ maxLen) (hm : m.length ≤ maxLen) (hf : 30 < l.length ∨ ¬ 30 < l.length ∧ (30 < m.length ∨ ¬ 30 < m.length ∧ l.length = 0)) :
    Calls Tryz.prog 8 #[.slice A l.length c, .slice B m.length d, .int .u8 t] w fun e w' => e = .returned (.bool true) ∧ Below w.heap.size w w' := by
  go_enter Tryz.func8, Tryz.ntmps8
  go_wp2_with fail
  refine (known_any _).mono ?_
  rintro _ w1 ⟨rfl, hb⟩
  have HBX := hide hb
  clear hb
  go_wp2_with fail
  rcases hf with hf | ⟨hf, hg⟩
  · refine (few_at A _ c false _ hn (decide_eq_false (by omega))).mono ?_
    rintro _ w2 ⟨rfl, rfl⟩
    go_wp2_with fail
    go_ret
    exact ⟨rfl, HBX.out⟩
  · refine (few_at A _ c true _ hn (decide_eq_true (by omega))).mono ?_
    rintro _ w2 ⟨rfl, rfl⟩
    go_wp2_with fail
    rcases hg with hg | ⟨hg, h0⟩
    · refine (few_at B _ d false _ hm (decide_eq_false (by omega))).mono ?_
      rintro _ w2 ⟨rfl, rfl⟩
      go_wp2_with fail
      go_ret
      exact ⟨rfl, HBX.out⟩
    · refine (few_at B _ d true _ hm (decide_eq_true (by omega))).mono ?_
      rintro _ w2 ⟨rfl, rfl⟩
      have h1 : ((l.length : Int) == 0) = true := by rw [beq_iff_eq]; omega
      go_wp2_with fail
      go_ret
      exact ⟨rfl, HBX.out⟩
set_option maxRecDepth 100000 in
set_option maxHeartbeats 16000000 in
set_option linter.unusedSimpArgs false in
theorem tu12_yes (b off c : Nat) (B : Option Addr) (d : Nat) (l m : List C) (t : Int) (w : World) (h : RowC w (some ⟨b, off, none⟩) l) (h2 : RowC w B m) (k : Nat) (hn : l.length ≤ 30) (hp : 1 ≤ l.length) (hc : l.length ≤ c) (hcm : c ≤ maxLen) (hm : m.length ≤ 30) (t0 : 0 ≤ t) (t1 : t ≤ 255) (hk : t % (l.length : Int) = (k : Int)) (hkl : k < l.length) :
    Calls Tryz.prog 8 #[.slice (some ⟨b, off, none⟩) l.length c, .slice B m.length d, .int .u8 t] w fun e w' => e = .returned (.bool true) ∧ Below w.heap.size w w' := by
  have HA := hide h
  have HB := hide h2
  have HK := hide hk
  have hck : ¬ c = k := by omega
  have hkNL : k ≤ l.length := by omega
  have hkc : k ≤ c := by omega
  have hc0 : ¬ c = 0 := by omega
  have f2 : ((l.length : Int) == 0) = false := by rw [beq_eq_false_iff_ne]; omega
  have f4 : ¬ ((l.length : Int) = 0) := by omega
  have hl1 := neatC_len l
  have hl2 := meetC_len l m
  have hl3 := minusC_len l m
  have hl4 := minusC_len l (minusC l m)
  have hl5 := neatC_len (neatC l)
  unfold maxLen at hcm
  clear h h2 hk
  go_enter Tryz.func8, Tryz.ntmps8
  go_wp2_with fail
  refine (known_any _).mono ?_
  rintro _ w1 ⟨rfl, hb⟩
  have HBX := hide hb
  clear hb
  go_wp2_with fail
  replace HA := hide (HA.out.keep HBX.out)
  replace HB := hide (HB.out.keep HBX.out)
  refine (few_at (some ⟨b, off, none⟩) _ c true _ (by unfold maxLen; omega) (decide_eq_true (by omega))).mono ?_
  rintro _ w2 ⟨rfl, rfl⟩
  go_wp2_with fail
  refine (few_at B _ d true _ (by unfold maxLen; omega) (decide_eq_true (by omega))).mono ?_
  rintro _ w2 ⟨rfl, rfl⟩
  go_wp2_with fail
  rw [HK.out]
  go_upto_region 6 with (fail)
  try simp only [List.append]
  refine wp_region_held_drew (S := fun w' => Below w1.heap.size w1 w') (by kernel_rfl) ?_ (fun hH0 => ?_)
  · exact (start w1).drew
  refine' wpAnyH_take (i := 0) (oi := _) (v := ?v0) rfl (by as_aux_lemma => kernel_rfl) (by as_aux_lemma => kernel_rfl) (by as_aux_lemma => kernel_rfl) (fun _ _ _ h => h) (Or.inl ⟨by rfl, ?y0⟩) hH0 ?r0
  case y0 => (intro w hSw; (try dsimp only at hSw); go_simp; (try with_reducible rfl))
  try simp only [Act.put, List.getElem_toArray, List.getElem_cons_succ, List.getElem_cons_zero, List.setIfInBounds_toArray, List.set_cons_zero, List.set_cons_succ]
  refine' wpAnyH_take (i := 1) (oi := _) (v := ?v1) rfl (by as_aux_lemma => kernel_rfl) (by as_aux_lemma => kernel_rfl) (by as_aux_lemma => kernel_rfl) (fun _ _ _ h => h) (Or.inl ⟨by rfl, ?y1⟩) hH0 ?r1
  case y1 => (intro w hSw; (try dsimp only at hSw); go_simp; (try with_reducible rfl))
  try simp only [Act.put, List.getElem_toArray, List.getElem_cons_succ, List.getElem_cons_zero, List.setIfInBounds_toArray, List.set_cons_zero, List.set_cons_succ]
  refine' wpAnyH_take (i := 2) (oi := _) (v := ?v2) rfl (by as_aux_lemma => kernel_rfl) (by as_aux_lemma => kernel_rfl) (by as_aux_lemma => kernel_rfl) (fun _ _ _ h => h) (Or.inl ⟨by rfl, ?y2⟩) hH0 ?r2
  case y2 => (intro w hSw; (try dsimp only at hSw); go_simp; (try with_reducible rfl))
  try simp only [Act.put, List.getElem_toArray, List.getElem_cons_succ, List.getElem_cons_zero, List.setIfInBounds_toArray, List.set_cons_zero, List.set_cons_succ]
  refine' wpAnyH_take (i := 4) (oi := _) (v := ?v3) rfl (by as_aux_lemma => kernel_rfl) (by as_aux_lemma => kernel_rfl) (by as_aux_lemma => kernel_rfl) (fun _ _ _ h => h) (Or.inl ⟨by rfl, ?y3⟩) hH0 ?r3
  case y3 => (intro w hSw; (try dsimp only at hSw); go_simp; (try with_reducible rfl))
  try simp only [Act.put, List.getElem_toArray, List.getElem_cons_succ, List.getElem_cons_zero, List.setIfInBounds_toArray, List.set_cons_zero, List.set_cons_succ]
  refine' wpAnyH_take (i := 5) (oi := _) (v := ?v4) rfl (by as_aux_lemma => kernel_rfl) (by as_aux_lemma => kernel_rfl) (by as_aux_lemma => kernel_rfl) (fun _ _ _ h => h) (Or.inl ⟨by rfl, ?y4⟩) hH0 ?r4
  case y4 => (intro w hSw; (try dsimp only at hSw); go_simp; (try with_reducible rfl))
  try simp only [Act.put, List.getElem_toArray, List.getElem_cons_succ, List.getElem_cons_zero, List.setIfInBounds_toArray, List.set_cons_zero, List.set_cons_succ]
  refine' wpAnyH_take (i := 6) (oi := _) (v := ?v5) rfl (by as_aux_lemma => kernel_rfl) (by as_aux_lemma => kernel_rfl) (by as_aux_lemma => kernel_rfl) (fun _ _ _ h => h) (Or.inl ⟨by rfl, ?y5⟩) hH0 ?r5
  case y5 => (intro w hSw; (try dsimp only at hSw); go_simp; (try with_reducible rfl))
  try simp only [Act.put, List.getElem_toArray, List.getElem_cons_succ, List.getElem_cons_zero, List.setIfInBounds_toArray, List.set_cons_zero, List.set_cons_succ]
  refine wpAnyH_ready (rs := [3]) (by as_aux_lemma => kernel_rfl) (by simp) ?_
  refine AllReadyH.cons (o := _) rfl (fun K hK => ?_) AllReadyH.nil
  refine step_oneC (B := w1.heap.size) (l := []) (k := l.drop k) rfl _ _ rfl rfl rfl (by rw [List.length_drop]) (row_dropC k (HA.out.keep hH0)) (ownC_nil _ _) hH0.size (by simp) (by rw [List.length_drop]; omega) ?_
  intro v3 w3 hown3 hb
  refine hK.out _ _ (hH0.trans hb) (fun hN => ?_)
  clear hK K hH0
  have hH1 := hN
  clear hN
  try simp only [Act.put, List.getElem_toArray, List.getElem_cons_succ, List.getElem_cons_zero, List.setIfInBounds_toArray, List.set_cons_zero, List.set_cons_succ]
  refine wpAnyH_ready (rs := [7]) (by as_aux_lemma => kernel_rfl) (by simp) ?_
  refine AllReadyH.cons (o := _) rfl (fun K hK => ?_) AllReadyH.nil
  refine step_oneC (B := w1.heap.size) (l := [] ++ l.drop k) (k := l.take k) rfl _ _ rfl rfl rfl (by rw [List.length_take]; omega) (row_takeC k (HA.out.keep hH1)) hown3 hH1.size (by rw [List.nil_append, List.length_drop]; omega) (by rw [List.length_take]; omega) ?_
  intro v4 w4 hown4 hb4
  refine hK.out _ _ (hH1.trans hb4) (fun hN => ?_)
  clear hK K hH1
  have hH2 := hN
  clear hN
  try simp only [Act.put, List.getElem_toArray, List.getElem_cons_succ, List.getElem_cons_zero, List.setIfInBounds_toArray, List.set_cons_zero, List.set_cons_succ]
  refine' wpAnyH_take (i := 8) (oi := _) (v := ?v6) rfl (by as_aux_lemma => kernel_rfl) (by as_aux_lemma => kernel_rfl) (by as_aux_lemma => kernel_rfl) (fun _ _ _ h => h) (Or.inl ⟨by rfl, ?y6⟩) hH2 ?r6
  case y6 => (intro w hSw; (try dsimp only at hSw); go_simp; (try with_reducible rfl))
  try simp only [Act.put, List.getElem_toArray, List.getElem_cons_succ, List.getElem_cons_zero, List.setIfInBounds_toArray, List.set_cons_zero, List.set_cons_succ]
  refine wpAnyH_done (by as_aux_lemma => kernel_rfl) ?_ _
  rw [List.nil_append] at hown4
  obtain ⟨A4, c4, rfl, hr4⟩ := hown4.row
  have HR4 := hide hr4
  have HBE := hide hH2
  clear hH2 hown3 hown4 hb4 hr4
  replace HA := hide (HA.out.keep HBE.out)
  replace HB := hide (HB.out.keep HBE.out)
  replace HBX := hide (HBX.out.trans (HBE.out.mono HBX.out.size))
  clear HBE
  have hrl : (l.drop k ++ l.take k).length = l.length := by rw [List.length_append, List.length_drop, List.length_take]; omega
  have HT1 : Hid (decide (neatC l = neatC (l.drop k ++ l.take k)) = true) := hide (decide_eq_true (turn_neat l k).symm)
  have HT2 := hide (turn_neat l k)
  have HT3 := hide (neatC_idem l)
  have HT4 := hide (turn_meet l m k)
  have HT5 : Hid (decide (neatC (minusC l (minusC l m)) = neatC (meetC l m)) = true) := hide (decide_eq_true (turn_minus l m))
  have HT6 := hide (minusC_self l)
  go_wp2_with fail
  refine (Neat_any (some ⟨b, off, none⟩) _ c l _ HA.out rfl (by omega)).mono ?_
  rintro _ wz5 ⟨v5, rfl, ho, hb⟩
  obtain ⟨A5, c5, rfl, hr⟩ := ho.row
  have HR5 := hide hr
  clear ho hr
  replace HBX := hide (andthen HBX.out hb)
  replace HA := hide (HA.out.keep hb)
  replace HB := hide (HB.out.keep hb)
  replace HR4 := hide (HR4.out.keep hb)
  clear hb
  go_wp2_with fail
  refine (Same_any (some ⟨b, off, none⟩) A4 _ _ c c4 l (l.drop k ++ l.take k) _ HA.out HR4.out rfl hrl.symm (by omega) (by omega)).mono ?_
  rw [HT1.out]
  rintro _ wz ⟨rfl, hb⟩
  replace HBX := hide (andthen HBX.out hb)
  replace HA := hide (HA.out.keep hb)
  replace HB := hide (HB.out.keep hb)
  replace HR4 := hide (HR4.out.keep hb)
  replace HR5 := hide (HR5.out.keep hb)
  clear hb
  go_wp2_with fail
  refine (Neat_any A4 _ c4 (l.drop k ++ l.take k) _ HR4.out hrl.symm (by omega)).mono ?_
  rw [HT2.out]
  rintro _ wz6 ⟨v6, rfl, ho, hb⟩
  obtain ⟨A6, c6, rfl, hr⟩ := ho.row
  have HR6 := hide hr
  clear ho hr
  replace HBX := hide (andthen HBX.out hb)
  replace HA := hide (HA.out.keep hb)
  replace HB := hide (HB.out.keep hb)
  replace HR4 := hide (HR4.out.keep hb)
  replace HR5 := hide (HR5.out.keep hb)
  clear hb
  go_wp2_with fail
  refine (R.equalC_any A6 A5 _ _ c6 c5 (neatC l) (neatC l) _ HR6.out HR5.out rfl rfl (by omega) (by omega)).mono ?_
  rw [decide_eq_true rfl]
  rintro _ wz ⟨rfl, hb⟩
  replace HBX := hide (andthen HBX.out hb)
  replace HA := hide (HA.out.keep hb)
  replace HB := hide (HB.out.keep hb)
  replace HR4 := hide (HR4.out.keep hb)
  replace HR5 := hide (HR5.out.keep hb)
  clear hb
  go_wp2_with fail
  refine (Neat_any A5 _ c5 (neatC l) _ HR5.out rfl (by omega)).mono ?_
  rw [HT3.out]
  rintro _ wz7 ⟨v7, rfl, ho, hb⟩
  obtain ⟨A7, c7, rfl, hr⟩ := ho.row
  have HR7 := hide hr
  clear ho hr
  replace HBX := hide (andthen HBX.out hb)
  replace HA := hide (HA.out.keep hb)
  replace HB := hide (HB.out.keep hb)
  replace HR4 := hide (HR4.out.keep hb)
  replace HR5 := hide (HR5.out.keep hb)
  clear hb
  go_wp2_with fail
  refine (R.equalC_any A7 A5 _ _ c7 c5 (neatC l) (neatC l) _ HR7.out HR5.out rfl rfl (by omega) (by omega)).mono ?_
  rw [decide_eq_true rfl]
  rintro _ wz ⟨rfl, hb⟩
  replace HBX := hide (andthen HBX.out hb)
  replace HA := hide (HA.out.keep hb)
  replace HB := hide (HB.out.keep hb)
  replace HR4 := hide (HR4.out.keep hb)
  clear hb
  go_wp2_with fail
  refine (Meet_any (some ⟨b, off, none⟩) B _ _ c d l m _ HA.out HB.out rfl rfl (by omega) (by omega)).mono ?_
  rintro _ wz8 ⟨v8, rfl, ho, hb⟩
  obtain ⟨A8, c8, rfl, hr⟩ := ho.row
  have HR8 := hide hr
  clear ho hr
  replace HBX := hide (andthen HBX.out hb)
  replace HA := hide (HA.out.keep hb)
  replace HB := hide (HB.out.keep hb)
  replace HR4 := hide (HR4.out.keep hb)
  clear hb
  go_wp2_with fail
  refine (Meet_any B A4 _ _ d c4 m (l.drop k ++ l.take k) _ HB.out HR4.out rfl hrl.symm (by omega) (by omega)).mono ?_
  rw [HT4.out]
  rintro _ wz9 ⟨v9, rfl, ho, hb⟩
  obtain ⟨A9, c9, rfl, hr⟩ := ho.row
  have HR9 := hide hr
  clear ho hr
  replace HBX := hide (andthen HBX.out hb)
  replace HA := hide (HA.out.keep hb)
  replace HB := hide (HB.out.keep hb)
  replace HR8 := hide (HR8.out.keep hb)
  clear hb
  go_wp2_with fail
  refine (R.equalC_any A8 A9 _ _ c8 c9 (meetC l m) (meetC l m) _ HR8.out HR9.out rfl rfl (by omega) (by omega)).mono ?_
  rw [decide_eq_true rfl]
  rintro _ wz ⟨rfl, hb⟩
  replace HBX := hide (andthen HBX.out hb)
  replace HA := hide (HA.out.keep hb)
  replace HB := hide (HB.out.keep hb)
  clear hb
  go_wp2_with fail
  refine (Minus_any (some ⟨b, off, none⟩) B _ _ c d l m _ HA.out HB.out rfl rfl (by omega) (by omega)).mono ?_
  rintro _ wz10 ⟨v10, rfl, ho, hb⟩
  obtain ⟨A10, c10, rfl, hr⟩ := ho.row
  have HR10 := hide hr
  clear ho hr
  replace HBX := hide (andthen HBX.out hb)
  replace HA := hide (HA.out.keep hb)
  replace HB := hide (HB.out.keep hb)
  clear hb
  go_wp2_with fail
  refine (Minus_any (some ⟨b, off, none⟩) A10 _ _ c c10 l (minusC l m) _ HA.out HR10.out rfl rfl (by omega) (by omega)).mono ?_
  rintro _ wz11 ⟨v11, rfl, ho, hb⟩
  obtain ⟨A11, c11, rfl, hr⟩ := ho.row
  have HR11 := hide hr
  clear ho hr
  replace HBX := hide (andthen HBX.out hb)
  replace HA := hide (HA.out.keep hb)
  replace HB := hide (HB.out.keep hb)
  clear hb
  go_wp2_with fail
  refine (Meet_any (some ⟨b, off, none⟩) B _ _ c d l m _ HA.out HB.out rfl rfl (by omega) (by omega)).mono ?_
  rintro _ wz12 ⟨v12, rfl, ho, hb⟩
  obtain ⟨A12, c12, rfl, hr⟩ := ho.row
  have HR12 := hide hr
  clear ho hr
  replace HBX := hide (andthen HBX.out hb)
  replace HA := hide (HA.out.keep hb)
  replace HB := hide (HB.out.keep hb)
  replace HR11 := hide (HR11.out.keep hb)
  clear hb
  go_wp2_with fail
  refine (Same_any A11 A12 _ _ c11 c12 (minusC l (minusC l m)) (meetC l m) _ HR11.out HR12.out rfl rfl (by omega) (by omega)).mono ?_
  rw [HT5.out]
  rintro _ wz ⟨rfl, hb⟩
  replace HBX := hide (andthen HBX.out hb)
  replace HA := hide (HA.out.keep hb)
  replace HB := hide (HB.out.keep hb)
  clear hb
  go_wp2_with fail
  refine (Minus_any (some ⟨b, off, none⟩) (some ⟨b, off, none⟩) _ _ c c l l _ HA.out HA.out rfl rfl (by omega) (by omega)).mono ?_
  rw [HT6.out]
  rintro _ wz13 ⟨v13, rfl, ho, hb⟩
  obtain ⟨A13, c13, rfl, hr⟩ := ho.row
  have HR13 := hide hr
  clear ho hr
  replace HBX := hide (andthen HBX.out hb)
  replace HA := hide (HA.out.keep hb)
  replace HB := hide (HB.out.keep hb)
  clear hb
  go_wp2_with fail
  go_ret
  exact ⟨rfl, HBX.out⟩
theorem tu12_any (A : Option Addr) (n c : Nat) (l : List C) (B : Option Addr) (n2 d : Nat) (m : List C) (t : Int) (w : World) (h : RowC w A l) (he : n = l.length) (hn : l.length ≤ maxLen) (hc : n ≤ c ∧ c ≤ maxLen) (k : RowC w B m) (hf : n2 = m.length) (hm : m.length ≤ maxLen) (t0 : 0 ≤ t) (t1 : t ≤ 255) :
    Calls Tryz.prog 8 #[.slice A n c, .slice B n2 d, .int .u8 t] w fun e w' => e = .returned (.bool true) ∧ Below w.heap.size w w' := by
  subst he hf
  by_cases g1 : 30 < l.length
  · exact tu12_few A B c d l m t w hn hm (Or.inl g1)
  · by_cases g2 : 30 < m.length
    · exact tu12_few A B c d l m t w hn hm (Or.inr ⟨g1, Or.inl g2⟩)
    · by_cases g3 : l.length = 0
      · exact tu12_few A B c d l m t w hn hm (Or.inr ⟨g1, Or.inr ⟨g2, g3⟩⟩)
      · obtain ⟨b, off, rfl, _, _⟩ := h (by rintro rfl; exact g3 rfl)
        have e1 := Int.emod_nonneg t (show (l.length : Int) ≠ 0 by omega)
        have e2 := Int.emod_lt_of_pos t (show (0 : Int) < (l.length : Int) by omega)
        exact tu12_yes b off c B d l m t w h k (t % (l.length : Int)).toNat (by omega) (by omega) hc.1 hc.2 (by omega) t0 t1 (by omega) (by omega)
end Go.Proofs.YtgihekokbgggcaaGreat.S2

/- ScribeSpoilt. Written by recipes/sc11.py. -/
import Derived.Laws.BitsAllLaws
import Derived.Deep.RegionHeld3
import Derived.Test.YtlmdceeeahnkcaaGreatDoorZQ14
namespace Go.Proofs.YtlmdceeeahnkcaaGreatDoor
open Go.RowKit Rul Rt Go.Sort Sc De Cl

set_option maxRecDepth 100000 in
set_option maxHeartbeats 32000000 in
set_option linter.unusedSimpArgs false in
theorem ss2_any (d : D) (m : DM) (n : Nat) (y : UInt8) (how : Int) (w : World) (he : Env w) (h : DL w d m) (hf : fewD d = true) (hd : isD d = true) (h1 : n < 65536) (h4 : how % 4 = 2) (h0 : 0 ≤ how) :
    Calls Tryz.prog 4 #[.agg (dC d m).toArray, .int .u16 n, .int .u8 ((y.toNat : Nat) : Int), .int .u8 how] w (Ans w (.bool true)) := by
  have HB := hide (more (start w) (.cells (dC d m).toArray 34))
  have R1 := hide (range_new w (dC d m) 34)
  have HE := hide (he.keep HB.out)
  have HK := hide (fun w he => known_any w he)
  have HA := hide (h.keep HB.out)
  have HF := hide (fun w => fewD_c d m true w hf)
  have HI := hide (fun w h => rdIs_c d m true w h hd)
  have HL1 := hide (fun w he h => line_any d m w he h)
  rw [lineV_yes hd] at HL1
  have hl := line_len hd
  have hz4 : ¬ ((lineE d).length : Int) < 4 := by omega
  have hkn : n % (lineE d).length < (lineE d).length := Nat.mod_lt _ (by omega)
  have hem : (n : Int) % ((lineE d).length : Int) = ((n % (lineE d).length : Nat) : Int) := (Int.natCast_emod _ _).symm
  have hez : ((lineE d).length : Int) ≠ 0 := by omega
  have hwb : wrap64 (n : Int) = (n : Int) := IntWalk.wrap64_in _ (by omega)
  have e4 : how.tmod 4 = 2 := by rw [Int.tmod_eq_emod_of_nonneg h0]; exact h4
  have HS := hide (spo_le (lineE d) (n % (lineE d).length) y 2 hkn)
  have HRY := hide (fun w he => Read_any (lineE d) w he (by omega))
  rw [read_line hd] at HRY
  have HRN := hide (fun (hne : spo (lineE d) (n % (lineE d).length) y 2 ≠ lineE d) w he => (spo_no y 2 hkn hne) ▸ Read_any (spo (lineE d) (n % (lineE d).length) y 2) w he (by have := HS.out; omega))
  have q1 := str_tl (lineE d)
  have hsz : ((str (lineE d)).size : Int) = ((lineE d).length : Int) := by rw [str_size]
  have HSZ := hide (str_size (lineE d))
  have HLN := hide hl
  clear he h hf hd hl h1 h0
  generalize lineE d = L at *
  generalize n % L.length = k at *
  have hk0 : (0 : Int) ≤ (k : Int) := by omega
  have hk1 : (k : Int) ≤ (L.length : Int) := by omega
  have hk2 : (k : Int) + 1 ≤ (L.length : Int) := by omega
  have hk3 : (0 : Int) ≤ (k : Int) + 1 := by omega
  have hkw : IntKind.i64.wrap ((k : Int) + 1) = (k : Int) + 1 := IntWalk.i64_in _ (by have := HLN.out; omega)
  have hkn1 : ((k : Int) + 1).toNat = k + 1 := by omega
  go_enter Tryz.func4, Tryz.ntmps4
  go_wp2_with fail
  refine (HK.out _ HE.out).mono ?_
  rintro q w1 ⟨rfl, hb⟩
  replace HB := hide (andthen HB.out hb)
  replace R1 := hide (range_keep R1.out hb)
  replace HE := hide (HE.out.keep hb)
  replace HA := hide (HA.out.keep hb)
  clear hb
  go_wp2_with (refine load_deed rfl _ rfl _ _ rfl _ R1.out rfl ?_)
  refine (HF.out _).mono ?_
  rintro q w2 ⟨rfl, hb⟩
  replace HB := hide (andthen HB.out hb)
  replace R1 := hide (range_keep R1.out hb)
  replace HE := hide (HE.out.keep hb)
  replace HA := hide (HA.out.keep hb)
  clear hb
  go_wp2_with (refine load_deed rfl _ rfl _ _ rfl _ R1.out rfl ?_)
  refine (HI.out _ HA.out).mono ?_
  rintro q w3 ⟨rfl, hb⟩
  replace HB := hide (andthen HB.out hb)
  replace R1 := hide (range_keep R1.out hb)
  replace HE := hide (HE.out.keep hb)
  replace HA := hide (HA.out.keep hb)
  clear hb
  go_wp2_with (refine load_deed rfl _ rfl _ _ rfl _ R1.out rfl ?_)
  refine (HL1.out _ HE.out HA.out).mono ?_
  rintro q w4 ⟨rfl, hb⟩
  replace HB := hide (andthen HB.out hb)
  replace R1 := hide (range_keep R1.out hb)
  replace HE := hide (HE.out.keep hb)
  replace HA := hide (HA.out.keep hb)
  clear hb
  go_wp2_with fail
  have hcat : ¬ (9223372036854775807 < min k (str L).size + ((str L).size - (k + 1))) := by have := HSZ.out; have := HLN.out; omega
  have hcat2 : ¬ (9223372036854775807 < min k (str L).size + (str [y]).size) := by have e1 : (str [y]).size = 1 := str_size [y]; have := HSZ.out; have := HLN.out; omega
  have hcat3 : ¬ (9223372036854775807 < min k (str L).size + (str [y]).size + ((str L).size - k)) := by have e1 : (str [y]).size = 1 := str_size [y]; have := HSZ.out; have := HLN.out; omega
  have hcv : ∀ (w' : World) (b : Nat), w'.cell? ⟨b, 0, none⟩ = some (.int .u8 ((y.toNat : Nat) : Int)) → (convert 44 9 (.slice (some ⟨b, 0, none⟩) 1 1)).run Tryz.prog w' = .ok (.string (str [y])) w' := fun w' b hc => by
    refine run_convert_bytes_back (P := Tryz.prog) w' 44 9 5 ⟨b, 0, none⟩ 1 [y] Tryz.underlying44 Tryz.underlying5 Tryz.underlying9 (fun j hj => ?_)
    obtain rfl : j = 0 := by simpa using hj
    rw [Addr.add_mid]; exact hc
  refine wp_region_held_drew (S := fun _ => True) (by kernel_rfl) ?_ (fun hH0 => ?_)
  · exact trivial
  refine' wpAnyH_take (i := 0) (oi := _) (v := ?v0) rfl (by as_aux_lemma => kernel_rfl) (by as_aux_lemma => kernel_rfl) (by as_aux_lemma => kernel_rfl) (fun _ _ _ h => h) (Or.inl ⟨by rfl, ?y0⟩) hH0 ?r0
  case y0 => (intro w hSw; (try dsimp only at hSw); go_simp; (try with_reducible rfl))
  try simp only [Act.put, List.getElem_toArray, List.getElem_cons_succ, List.getElem_cons_zero, List.setIfInBounds_toArray, List.set_cons_zero, List.set_cons_succ]
  refine' wpAnyH_take (i := 1) (oi := _) (v := ?v1) rfl (by as_aux_lemma => kernel_rfl) (by as_aux_lemma => kernel_rfl) (by as_aux_lemma => kernel_rfl) (fun _ _ _ h => h) (Or.inl ⟨by rfl, ?y1⟩) hH0 ?r1
  case y1 => (intro w hSw; (try dsimp only at hSw); go_simp; (try with_reducible rfl))
  try simp only [Act.put, List.getElem_toArray, List.getElem_cons_succ, List.getElem_cons_zero, List.setIfInBounds_toArray, List.set_cons_zero, List.set_cons_succ]
  refine' wpAnyH_take (i := 2) (oi := _) (v := ?v2) rfl (by as_aux_lemma => kernel_rfl) (by as_aux_lemma => kernel_rfl) (by as_aux_lemma => kernel_rfl) (fun _ _ _ h => h) (Or.inl ⟨by rfl, ?y2⟩) hH0 ?r2
  case y2 => (intro w hSw; (try dsimp only at hSw); go_simp; (try with_reducible rfl))
  try simp only [Act.put, List.getElem_toArray, List.getElem_cons_succ, List.getElem_cons_zero, List.setIfInBounds_toArray, List.set_cons_zero, List.set_cons_succ]
  refine' wpAnyH_take (i := 3) (oi := _) (v := ?v3) rfl (by as_aux_lemma => kernel_rfl) (by as_aux_lemma => kernel_rfl) (by as_aux_lemma => kernel_rfl) (fun _ _ _ h => h) (Or.inl ⟨by rfl, ?y3⟩) hH0 ?r3
  case y3 => (intro w hSw; (try dsimp only at hSw); go_simp; (try with_reducible rfl))
  try simp only [Act.put, List.getElem_toArray, List.getElem_cons_succ, List.getElem_cons_zero, List.setIfInBounds_toArray, List.set_cons_zero, List.set_cons_succ]
  refine' wpAnyH_take (i := 7) (oi := _) (v := ?v4) rfl (by as_aux_lemma => kernel_rfl) (by as_aux_lemma => kernel_rfl) (by as_aux_lemma => kernel_rfl) (fun _ _ _ h => h) (Or.inl ⟨by rfl, ?y4⟩) hH0 ?r4
  case y4 => (intro w hSw; (try dsimp only at hSw); go_simp; (try with_reducible rfl))
  try simp only [Act.put, List.getElem_toArray, List.getElem_cons_succ, List.getElem_cons_zero, List.setIfInBounds_toArray, List.set_cons_zero, List.set_cons_succ]
  refine' wpAnyH_take (i := 8) (oi := _) (v := ?v5) rfl (by as_aux_lemma => kernel_rfl) (by as_aux_lemma => kernel_rfl) (by as_aux_lemma => kernel_rfl) (fun _ _ _ h => h) (Or.inl ⟨by rfl, ?y5⟩) hH0 ?r5
  case y5 => (intro w hSw; (try dsimp only at hSw); go_simp; (try with_reducible rfl))
  try simp only [Act.put, List.getElem_toArray, List.getElem_cons_succ, List.getElem_cons_zero, List.setIfInBounds_toArray, List.set_cons_zero, List.set_cons_succ]
  refine' wpAnyH_take (i := 9) (oi := _) (v := ?v6) rfl (by as_aux_lemma => kernel_rfl) (by as_aux_lemma => kernel_rfl) (by as_aux_lemma => kernel_rfl) (fun _ _ _ h => h) (Or.inl ⟨by rfl, ?y6⟩) hH0 ?r6
  case y6 => (intro w hSw; (try dsimp only at hSw); go_simp; (try with_reducible rfl))
  try simp only [Act.put, List.getElem_toArray, List.getElem_cons_succ, List.getElem_cons_zero, List.setIfInBounds_toArray, List.set_cons_zero, List.set_cons_succ]
  refine wpAnyH_ready (rs := [4]) (by as_aux_lemma => kernel_rfl) (by simp) ?_
  refine AllReadyH.cons (o := _) rfl (fun K hK => ?_) AllReadyH.nil
  go_simp
  refine hK.out _ _ (trivial) (fun hN => ?_)
  clear hK K hH0
  have hH1 := hN
  clear hN
  try simp only [Act.put, List.getElem_toArray, List.getElem_cons_succ, List.getElem_cons_zero, List.setIfInBounds_toArray, List.set_cons_zero, List.set_cons_succ]
  refine wpAnyH_ready (rs := [5]) (by as_aux_lemma => kernel_rfl) (by simp) ?_
  refine AllReadyH.cons (o := _) rfl (fun K hK => ?_) AllReadyH.nil
  go_simp
  refine hK.out _ _ (trivial) (fun hN => ?_)
  clear hK K hH1
  have hH2 := hN
  clear hN
  try simp only [Act.put, List.getElem_toArray, List.getElem_cons_succ, List.getElem_cons_zero, List.setIfInBounds_toArray, List.set_cons_zero, List.set_cons_succ]
  refine' wpAnyH_take (i := 6) (oi := _) (v := ?v7) rfl (by as_aux_lemma => kernel_rfl) (by as_aux_lemma => kernel_rfl) (by as_aux_lemma => kernel_rfl) (fun _ _ _ h => h) (Or.inl ⟨by rfl, ?y7⟩) hH2 ?r7
  case y7 => (intro w hSw; (try dsimp only at hSw); go_simp; (try with_reducible rfl))
  try simp only [Act.put, List.getElem_toArray, List.getElem_cons_succ, List.getElem_cons_zero, List.setIfInBounds_toArray, List.set_cons_zero, List.set_cons_succ]
  refine' wpAnyH_take (i := 10) (oi := _) (v := ?v8) rfl (by as_aux_lemma => kernel_rfl) (by as_aux_lemma => kernel_rfl) (by as_aux_lemma => kernel_rfl) (fun _ _ _ h => h) (Or.inl ⟨by rfl, ?y8⟩) hH2 ?r8
  case y8 => (intro w hSw; (try dsimp only at hSw); go_simp; (try with_reducible rfl))
  try simp only [Act.put, List.getElem_toArray, List.getElem_cons_succ, List.getElem_cons_zero, List.setIfInBounds_toArray, List.set_cons_zero, List.set_cons_succ]
  refine' wpAnyH_take (i := 11) (oi := _) (v := ?v9) rfl (by as_aux_lemma => kernel_rfl) (by as_aux_lemma => kernel_rfl) (by as_aux_lemma => kernel_rfl) (fun _ _ _ h => h) (Or.inl ⟨by rfl, ?y9⟩) hH2 ?r9
  case y9 => (intro w hSw; (try dsimp only at hSw); go_simp; (try with_reducible rfl))
  try simp only [Act.put, List.getElem_toArray, List.getElem_cons_succ, List.getElem_cons_zero, List.setIfInBounds_toArray, List.set_cons_zero, List.set_cons_succ]
  refine wpAnyH_done (by as_aux_lemma => kernel_rfl) ?_ _
  clear hH2 hcat hcat2 hcat3 hcv
  go_wp2_with fail
  have hS : (str L).extract 0 k ++ str [y] ++ (str L).extract k (str L).size = str (spo L k y 2) := by
    rw [ext_end, ext_str, str_app, str_app]; exact congrArg str (by unfold spo; simp)
  rw [hS]
  have hb := Below.drew (more (start w4) (.cells #[.int .u8 ((y.toNat : Nat) : Int)] 5))
  replace HB := hide (andthen HB.out hb)
  replace R1 := hide (range_keep R1.out hb)
  replace HE := hide (HE.out.keep hb)
  replace HA := hide (HA.out.keep hb)
  clear hb
  generalize (w4.alloc (.cells #[.int .u8 ((y.toNat : Nat) : Int)] 5)).drew = w5 at *
  generalize hs : spo L k y 2 = s at *
  clear hs
  have q2 := str_tl s
  by_cases hq : s = L
  · have q3 : (s == L) = true := by rw [tx_dec, decide_eq_true hq]
    subst hq
    refine (HRY.out _ HE.out).mono ?_
    rintro q w6 ⟨hb, p, rfl, _⟩
    replace HB := hide (more (andthen HB.out hb) (.cells (dC d p).toArray 34))
    clear hb
    go_wp2_with (refine store_new rfl _ _ _ rfl w6 _ (dC d p).toArray rfl rfl rfl (by kernel_rfl) (by kernel_rfl) (by kernel_rfl) ?_)
    go_ret
    exact ⟨rfl, HB.out⟩
  · have q3 : (s == L) = false := by rw [tx_dec, decide_eq_false hq]
    have HSM := hide (fun w => rsameD_c d0 d0 mD mD true w (dl_nil w) (dl_nil w) (sameD_self _))
    refine (HRN.out hq _ HE.out).mono ?_
    rintro q w6 ⟨hb, rfl⟩
    have R := hide (range_new w6 (dC d0 mD) 34)
    replace HB := hide (more (andthen HB.out hb) (.cells (dC d0 mD).toArray 34))
    clear hb hq
    go_wp2_with (first | refine load_deed rfl _ rfl _ _ rfl _ R.out rfl ?_ | refine store_new rfl _ _ _ rfl w6 _ (dC d0 mD).toArray rfl rfl rfl (by kernel_rfl) (by kernel_rfl) (by kernel_rfl) ?_ | refine build_at rfl 34 _ rfl (dC d0 mD).toArray (by kernel_rfl) ?_)
    refine (HSM.out _).mono ?_
    rintro q w7 ⟨rfl, hb⟩
    replace HB := hide (andthen HB.out hb)
    clear hb
    go_wp2_with fail
    go_ret
    exact ⟨rfl, HB.out⟩
end Go.Proofs.YtlmdceeeahnkcaaGreatDoor

/- ScSp3; ScSp of the recipes, what is needed of them. -/
import Derived.Laws.BitsAllLaws
import Derived.Deep.RegionHeld3
import Derived.Test.YtlmdceeeahnkcaaGreatDoorZQ14
import Derived.Test.YtlmdceeeahnkcaaGreatDoorZScSp1
import Derived.Test.YtlmdceeeahnkcaaGreatDoorZScSp2
namespace Go.Proofs.YtlmdceeeahnkcaaGreatDoor
open Go.RowKit Rul Rt Go.Sort Sc De Cl

set_option maxRecDepth 100000 in
set_option maxHeartbeats 32000000 in
set_option linter.unusedSimpArgs false in
theorem ss3_any (d : D) (m : DM) (n : Nat) (y : UInt8) (how : Int) (w : World) (he : Env w) (h : DL w d m) (hf : fewD d = true) (hd : isD d = true) (h1 : n < 65536) (h4 : how % 4 = 3) (h0 : 0 ≤ how) :
    Calls Tryz.prog 4 #[.agg (dC d m).toArray, .int .u16 n, .int .u8 ((y.toNat : Nat) : Int), .int .u8 how] w (Ans w (.bool true)) := by
  have HB := hide (more (start w) (.cells (dC d m).toArray 34))
  have R1 := hide (range_new w (dC d m) 34)
  have HE := hide (he.keep HB.out)
  have HK := hide (fun w he => known_any w he)
  have HA := hide (h.keep HB.out)
  have HF := hide (fun w => fewD_c d m true w hf)
  have HI := hide (fun w h => rdIs_c d m true w h hd)
  have HL1 := hide (fun w he h => line_any d m w he h)
  rw [lineV_yes hd] at HL1
  have hl := line_len hd
  have hz4 : ¬ ((lineE d).length : Int) < 4 := by omega
  have hkn : n % (lineE d).length < (lineE d).length := Nat.mod_lt _ (by omega)
  have hem : (n : Int) % ((lineE d).length : Int) = ((n % (lineE d).length : Nat) : Int) := (Int.natCast_emod _ _).symm
  have hez : ((lineE d).length : Int) ≠ 0 := by omega
  have hwb : wrap64 (n : Int) = (n : Int) := IntWalk.wrap64_in _ (by omega)
  have e4 : how.tmod 4 = 3 := by rw [Int.tmod_eq_emod_of_nonneg h0]; exact h4
  have HS := hide (spo_le (lineE d) (n % (lineE d).length) y 3 hkn)
  have HRY := hide (fun w he => Read_any (lineE d) w he (by omega))
  rw [read_line hd] at HRY
  have HRN := hide (fun (hne : spo (lineE d) (n % (lineE d).length) y 3 ≠ lineE d) w he => (spo_no y 3 hkn hne) ▸ Read_any (spo (lineE d) (n % (lineE d).length) y 3) w he (by have := HS.out; omega))
  have q1 := str_tl (lineE d)
  have hsz : ((str (lineE d)).size : Int) = ((lineE d).length : Int) := by rw [str_size]
  have HSZ := hide (str_size (lineE d))
  have HLN := hide hl
  clear he h hf hd hl h1 h0
  generalize lineE d = L at *
  generalize n % L.length = k at *
  have hk0 : (0 : Int) ≤ (k : Int) := by omega
  have hk1 : (k : Int) ≤ (L.length : Int) := by omega
  have hk2 : (k : Int) + 1 ≤ (L.length : Int) := by omega
  have hk3 : (0 : Int) ≤ (k : Int) + 1 := by omega
  have hkw : IntKind.i64.wrap ((k : Int) + 1) = (k : Int) + 1 := IntWalk.i64_in _ (by have := HLN.out; omega)
  have hkn1 : ((k : Int) + 1).toNat = k + 1 := by omega
  go_enter Tryz.func4, Tryz.ntmps4
  go_wp2_with fail
  refine (HK.out _ HE.out).mono ?_
  rintro q w1 ⟨rfl, hb⟩
  replace HB := hide (andthen HB.out hb)
  replace R1 := hide (range_keep R1.out hb)
  replace HE := hide (HE.out.keep hb)
  replace HA := hide (HA.out.keep hb)
  clear hb
  go_wp2_with (refine load_deed rfl _ rfl _ _ rfl _ R1.out rfl ?_)
  refine (HF.out _).mono ?_
  rintro q w2 ⟨rfl, hb⟩
  replace HB := hide (andthen HB.out hb)
  replace R1 := hide (range_keep R1.out hb)
  replace HE := hide (HE.out.keep hb)
  replace HA := hide (HA.out.keep hb)
  clear hb
  go_wp2_with (refine load_deed rfl _ rfl _ _ rfl _ R1.out rfl ?_)
  refine (HI.out _ HA.out).mono ?_
  rintro q w3 ⟨rfl, hb⟩
  replace HB := hide (andthen HB.out hb)
  replace R1 := hide (range_keep R1.out hb)
  replace HE := hide (HE.out.keep hb)
  replace HA := hide (HA.out.keep hb)
  clear hb
  go_wp2_with (refine load_deed rfl _ rfl _ _ rfl _ R1.out rfl ?_)
  refine (HL1.out _ HE.out HA.out).mono ?_
  rintro q w4 ⟨rfl, hb⟩
  replace HB := hide (andthen HB.out hb)
  replace R1 := hide (range_keep R1.out hb)
  replace HE := hide (HE.out.keep hb)
  replace HA := hide (HA.out.keep hb)
  clear hb
  go_wp2_with fail
  have hS : (str L).extract 0 k = str (spo L k y 3) := by rw [ext_str]; rfl
  rw [hS]
  generalize hs : spo L k y 3 = s at *
  clear hs
  have q2 := str_tl s
  by_cases hq : s = L
  · have q3 : (s == L) = true := by rw [tx_dec, decide_eq_true hq]
    subst hq
    refine (HRY.out _ HE.out).mono ?_
    rintro q w6 ⟨hb, p, rfl, _⟩
    replace HB := hide (more (andthen HB.out hb) (.cells (dC d p).toArray 34))
    clear hb
    go_wp2_with (refine store_new rfl _ _ _ rfl w6 _ (dC d p).toArray rfl rfl rfl (by kernel_rfl) (by kernel_rfl) (by kernel_rfl) ?_)
    go_ret
    exact ⟨rfl, HB.out⟩
  · have q3 : (s == L) = false := by rw [tx_dec, decide_eq_false hq]
    have HSM := hide (fun w => rsameD_c d0 d0 mD mD true w (dl_nil w) (dl_nil w) (sameD_self _))
    refine (HRN.out hq _ HE.out).mono ?_
    rintro q w6 ⟨hb, rfl⟩
    have R := hide (range_new w6 (dC d0 mD) 34)
    replace HB := hide (more (andthen HB.out hb) (.cells (dC d0 mD).toArray 34))
    clear hb hq
    go_wp2_with (first | refine load_deed rfl _ rfl _ _ rfl _ R.out rfl ?_ | refine store_new rfl _ _ _ rfl w6 _ (dC d0 mD).toArray rfl rfl rfl (by kernel_rfl) (by kernel_rfl) (by kernel_rfl) ?_ | refine build_at rfl 34 _ rfl (dC d0 mD).toArray (by kernel_rfl) ?_)
    refine (HSM.out _).mono ?_
    rintro q w7 ⟨rfl, hb⟩
    replace HB := hide (andthen HB.out hb)
    clear hb
    go_wp2_with fail
    go_ret
    exact ⟨rfl, HB.out⟩
end Go.Proofs.YtlmdceeeahnkcaaGreatDoor
namespace Go.Proofs.YtlmdceeeahnkcaaGreatDoor
open Go.RowKit Rul Rt Go.Sort Sc De Cl

set_option maxRecDepth 100000 in
set_option maxHeartbeats 3200000 in
theorem ss15_any (d : D) (m : DM) (at_ x how : Int) (w : World) (he : Env w) (h : DO w d m) (h1 : 0 ≤ at_ ∧ at_ < 65536) (h2 : 0 ≤ x ∧ x < 256) (h3 : 0 ≤ how ∧ how < 256) :
    Calls Tryz.prog 4 #[.agg (dC d m).toArray, .int .u16 at_, .int .u8 x, .int .u8 how] w (Ans w (.bool true)) := by
  have HB := hide (more (start w) (.cells (dC d m).toArray 34))
  have R1 := hide (range_new w (dC d m) 34)
  have HE := hide (he.keep HB.out)
  have HK := hide (fun w he => known_any w he)
  cases hf : fewD d with
  | false =>
    have HF := hide (fun w => fewD_c d m false w hf)
    have HA := hide (dl_nil (w.alloc (.cells (dC d m).toArray 34)))
    clear hf he h
    go_enter Tryz.func4, Tryz.ntmps4
    go_wp2_with fail
    refine (HK.out _ HE.out).mono ?_
    rintro q w1 ⟨rfl, hb⟩
    replace HB := hide (andthen HB.out hb)
    replace R1 := hide (range_keep R1.out hb)
    replace HE := hide (HE.out.keep hb)
    replace HA := hide (HA.out.keep hb)
    clear hb
    go_wp2_with (refine load_deed rfl _ rfl _ _ rfl _ R1.out rfl ?_)
    refine (HF.out _).mono ?_
    rintro q w2 ⟨rfl, hb⟩
    replace HB := hide (andthen HB.out hb)
    replace R1 := hide (range_keep R1.out hb)
    replace HE := hide (HE.out.keep hb)
    replace HA := hide (HA.out.keep hb)
    clear hb
    go_wp2_with fail
    go_ret
    exact ⟨rfl, HB.out⟩
  | true =>
    cases hd : isD d with
    | false =>
      have HF := hide (fun w => fewD_c d m true w hf)
      have HA := hide ((h.few hf).keep HB.out)
      have HI := hide (fun w h => rdIs_c d m false w h hd)
      clear hd hf he h
      go_enter Tryz.func4, Tryz.ntmps4
      go_wp2_with fail
      refine (HK.out _ HE.out).mono ?_
      rintro q w1 ⟨rfl, hb⟩
      replace HB := hide (andthen HB.out hb)
      replace R1 := hide (range_keep R1.out hb)
      replace HE := hide (HE.out.keep hb)
      replace HA := hide (HA.out.keep hb)
      clear hb
      go_wp2_with (refine load_deed rfl _ rfl _ _ rfl _ R1.out rfl ?_)
      refine (HF.out _).mono ?_
      rintro q w2 ⟨rfl, hb⟩
      replace HB := hide (andthen HB.out hb)
      replace R1 := hide (range_keep R1.out hb)
      replace HE := hide (HE.out.keep hb)
      replace HA := hide (HA.out.keep hb)
      clear hb
      go_wp2_with (refine load_deed rfl _ rfl _ _ rfl _ R1.out rfl ?_)
      refine (HI.out _ HA.out).mono ?_
      rintro q w3 ⟨rfl, hb⟩
      replace HB := hide (andthen HB.out hb)
      replace R1 := hide (range_keep R1.out hb)
      replace HE := hide (HE.out.keep hb)
      replace HA := hide (HA.out.keep hb)
      clear hb
      go_wp2_with fail
      go_ret
      exact ⟨rfl, HB.out⟩
    | true =>
      have hl := h.few hf
      obtain ⟨n, rfl⟩ := Int.eq_ofNat_of_zero_le h1.1
      obtain ⟨y, rfl⟩ : ∃ y : UInt8, x = ((y.toNat : Nat) : Int) := ⟨UInt8.ofNat x.toNat, by rw [UInt8.toNat_ofNat']; omega⟩
      rcases (by omega : how % 4 = 0 ∨ how % 4 = 1 ∨ how % 4 = 2 ∨ how % 4 = 3) with q | q | q | q
      · exact ss0_any d m n y how w he hl hf hd (by omega) q h3.1
      · exact ss1_any d m n y how w he hl hf hd (by omega) q h3.1
      · exact ss2_any d m n y how w he hl hf hd (by omega) q h3.1
      · exact ss3_any d m n y how w he hl hf hd (by omega) q h3.1
end Go.Proofs.YtlmdceeeahnkcaaGreatDoor

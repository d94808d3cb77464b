/- LeasePlays. Written by recipes/le6.py. -/
import Derived.Test.YtphojcnehgdbmaaLeK
namespace Go.Proofs.Ytphojcnehgdbmaa.S2
open Go.RowKit Spn Cl Le

/-- a round's three ways, as what the lease has then. -/
theorem lacks_now {f : Rm} (ask : List C) : lacks f (neatC ask) = minusC ask (outC f) := lacks_is f ask

set_option maxRecDepth 100000 in
set_option maxHeartbeats 8000000 in
theorem plays13_any (site nn : Int) (A : Option Addr) (n c : Nat) (ts : List Stp) (D : Option Addr) (dn dc : Nat) (ask : List C) (w : World) (hr : RowT w A ts ∧ Stps w ts) (he : n = ts.length) (hn : ts.length ≤ maxLen) (hd : RowC w D ask ∧ (D = none → dc = 0)) (hf : dn = ask.length) (hm : ask.length ≤ maxLen) :
    Calls Try.prog 3 #[.int .i64 site, .int .i64 nn, .slice A n c, .slice D dn dc] w fun e w' => e = .returned (.bool true) ∧ Below w.heap.size w w' := by
  subst he hf
  have HR := hide hr.1
  have HS := hide hr.2
  have HD := hide hd.1
  have HN := hide hn
  have hm9 : ask.length ≤ 9223372036854775807 := by unfold maxLen at hm; omega
  clear hr hn hd hm
  obtain ⟨k, hk⟩ : ∃ k : Nat, min (max nn 1) 4 = (k : Int) := ⟨(min (max nn 1) 4).toNat, by omega⟩
  have hk0 : (1 : Int) ≤ (k : Int) := by omega
  have hk4 : (k : Int) ≤ 4 := by omega
  obtain ⟨s, hs⟩ : ∃ s : Nat, min (max site 0) ((k : Int) - 1) = (s : Int) := ⟨(min (max site 0) ((k : Int) - 1)).toNat, by omega⟩
  have E1 := hide hk
  have E2 := hide hs
  have E3 : Hid (max 1 (min nn 4) = (k : Int)) := hide (by omega)
  have E4 : Hid (max 0 (min site ((k : Int) - 1)) = (s : Int)) := hide (by omega)
  clear hk hs
  have HB := hide (start w)
  go_enter Try.func3, Try.ntmps3
  go_wp2_with fail
  refine (known_any w).mono ?_
  rintro e W1 ⟨rfl, hb⟩
  replace HB := hide (HB.out.trans (hb.mono HB.out.size))
  clear hb
  go_wp2_with fail
  cases hfew : fewB ts
  · have HF := hide hfew
    clear hfew
    refine (few_any A _ c ts W1 (HR.out.keep HB.out) (HS.out.keep HB.out) rfl HN.out).mono ?_
    rintro e W2 ⟨rfl, hb⟩
    rw [HF.out]
    replace HB := hide (HB.out.trans (hb.mono HB.out.size))
    clear hb
    go_wp2_with fail
    go_ret
    exact ⟨rfl, HB.out⟩
  by_cases ha : 10 < ask.length
  · have HF := hide hfew
    have ha1 : (10 : Int) < (ask.length : Int) := by omega
    have ha2 : decide ((10 : Int) < (ask.length : Int)) = true := decide_eq_true ha1
    clear hfew
    refine (few_any A _ c ts W1 (HR.out.keep HB.out) (HS.out.keep HB.out) rfl HN.out).mono ?_
    rintro e W2 ⟨rfl, hb⟩
    rw [HF.out]
    replace HB := hide (HB.out.trans (hb.mono HB.out.size))
    clear hb
    go_wp2_with fail
    go_ret
    exact ⟨rfl, HB.out⟩
  · have HF := hide hfew
    have HFS := hide ((fewB_iff ts).1 hfew)
    have hlen : ts.length ≤ 40 := HFS.out.2
    have hask : ask.length ≤ 10 := by omega
    have ha1 : ¬ (10 : Int) < (ask.length : Int) := by omega
    have ha2 : decide ((10 : Int) < (ask.length : Int)) = false := decide_eq_false ha1
    clear hfew ha
    refine (few_any A _ c ts W1 (HR.out.keep HB.out) (HS.out.keep HB.out) rfl HN.out).mono ?_
    rintro e W2 ⟨rfl, hb⟩
    rw [HF.out]
    replace HB := hide (HB.out.trans (hb.mono HB.out.size))
    clear hb
    go_wp2_with fail
    refine (newL_any site nn k s W2 E1.out E2.out).mono ?_
    rintro e W3 ⟨gx, bx, rfl, hg, hlo, hl, hb⟩
    have LOx : Hid (∀ r, r < 8 → w.heap.size ≤ bx r) := hide fun r hr => Nat.le_trans HB.out.size (hlo r hr)
    replace HB := hide (HB.out.trans (hb.mono HB.out.size))
    have Hx := hide hl
    clear hl hlo hg hb
    go_wp2_with fail
    refine (R.begin_any site nn k s W3 E3.out E4.out).mono ?_
    rintro e W4 ⟨v4, rfl, ho, hb⟩
    replace ho := ho.low HB.out.size
    replace Hx := hide (Hx.out.keep hb)
    replace HB := hide (HB.out.trans (hb.mono HB.out.size))
    obtain ⟨A4, c4, rfl, _⟩ := ho.row
    have R4 := hide ho
    clear ho hb
    go_wp2_with fail
    clear ha1 ha2
    have HLF := hide (beg_le k s)
    go_loopw [9, 10, 11] (fun xv rv i wr => ∃ (q g : Nat) (bs : Nat → Nat) (f : Rm), q ≤ ts.length ∧ xv = .pointer (some ⟨g, 0, none⟩) ∧ i = .int .i64 q ∧ Hid (LeaseAt wr g bs f) ∧ Hid (∀ r, r < 8 → w.heap.size ≤ bs r) ∧ Hid ((outC f).length ≤ 8 + 10 * q) ∧ Hid (OwnC wr w.heap.size rv (outC f)) ∧ Hid (Below w.heap.size w wr)) (fun _ _ i _ => ts.length - (intOf i).toNat)
    case atStart => exact ⟨0, gx, bx, begF k s, Nat.zero_le _, rfl, rfl, Hx, LOx, HLF, R4, HB⟩
    case round =>
      clear Hx LOx HLF R4 HB
      obtain ⟨q, gx, bx, f, hq, rfl, rfl, Hx, LOx, HLF, HRR, HB⟩ := hrel
      obtain ⟨A0, c0, rfl, _⟩ := HRR.out.row
      by_cases hlt : q < ts.length
      · obtain ⟨b, off, rfl, hb, hcl⟩ := HR.out.keep HB.out (by intro h0; rw [h0] at hlt; exact absurd hlt (Nat.not_lt_zero _))
        have hi0 : (0 : Int) ≤ (q : Int) := by omega
        have hi1 : (q : Int) < (ts.length : Int) := by omega
        obtain ⟨m, hm⟩ : ∃ m, ts[q] = m := ⟨_, rfl⟩
        have HCL := hide (hcl q hlt)
        rw [hm] at HCL
        have hmm := HS.out ts[q] (List.getElem_mem hlt)
        have hm10 := HFS.out.1 ts[q] (List.getElem_mem hlt)
        rw [hm] at hmm hm10
        obtain ⟨wh, mA, mc, ml⟩ := m
        simp only at HCL hmm hm10
        have HMR := hide hmm.1
        have HMN := hide hmm.2.2
        have HBL := hide hb
        have hts : Hid (ts[q] = ⟨wh, mA, mc, ml⟩) := hide hm
        have HNF : Hid (NeatR f) := hide Hx.out.neat
        clear hcl hm hmm hb
        by_cases c1 : wh ≤ 2
        · have c1b : decide (wh ≤ 2) = true := decide_eq_true c1
          obtain ⟨d0, d1⟩ := HCL.out
          go_wp2_with fail
          refine (addL_any gx bx f mA _ mc ml wr Hx.out (HMR.out.keep HB.out) rfl (by omega) (by have := HLF.out; omega)).mono ?_
          rintro e W21 ⟨rfl, hl, hc⟩
          have hone := Hx.out.one
          replace HRR := hide (OwnC.otherL HRR.out hone hc)
          replace HB := hide (hc.below HB.out HB.out.size LOx.out)
          replace Hx := hide hl
          clear hl hc hone
          obtain ⟨b', off', he', hb', hcl'⟩ := HR.out.keep HB.out (by intro h0; rw [h0] at hlt; exact absurd hlt (Nat.not_lt_zero _))
          injection he' with he'
          injection he' with e1 e2
          subst e1 e2
          obtain ⟨d0, d1⟩ := hcl' q hlt
          rw [hts.out] at d0 d1
          simp only at d0 d1
          clear hcl' hb'
          go_wp2_with fail
          have HEQ := hide (adds_is HNF.out ml).symm
          have HL2 : Hid ((outC (adds f (neatC ml))).length ≤ 8 + 10 * (q + 1)) := hide (by have h1 := adds_le (neatC ml) f; have h2 := neatC_le ml; have h3 := HLF.out; omega)
          refine (R.join_any A0 _ c0 (outC f) mA _ mc ml W21 HRR.out.rowAt.2.1 HRR.out.rowAt.2.2 (HMR.out.keep HB.out) HMN.out rfl rfl (by have := HLF.out; omega) (by omega)).mono ?_
          rintro e W22 ⟨v22, rfl, ho, hb⟩
          replace ho := ho.low HB.out.size
          replace Hx := hide (Hx.out.keep hb)
          replace HRR := hide (OwnC.keep HRR.out hb)
          replace HB := hide (HB.out.trans (hb.mono HB.out.size))
          rw [HEQ.out] at ho
          obtain ⟨A22, c22, rfl, _⟩ := ho.row
          have R22 := hide ho
          clear ho hb
          clear HEQ HRR
          generalize adds f (neatC ml) = f2 at *
          go_wp2_with fail
          have HLK : Hid ((minusC ask (outC f2)).length ≤ 1000) := hide (by have h1 := minusC_le ask (outC f2); have h2 := HL2.out; omega)
          have HMK : Hid ((meetC ask (outC f2)).length ≤ 1000) := hide (by have h1 := meetC_le ask (outC f2); have h2 := HL2.out; omega)
          have HPA := hide (parts_is Hx.out.neat ask)
          have HLA := hide (lacks_is f2 ask)
          have HHA := hide (hasL_is f2 ask)
          refine (R.Minus_any D A22 _ _ dc c22 ask (outC f2) W22 (HD.out.keep HB.out) R22.out.rowAt.2.1 rfl rfl (by omega) (by have := HL2.out; omega)).mono ?_
          rintro e W23 ⟨v23, rfl, ho, hb⟩
          replace ho := ho.low HB.out.size
          replace Hx := hide (Hx.out.keep hb)
          replace R22 := hide (OwnC.keep R22.out hb)
          replace HB := hide (HB.out.trans (hb.mono HB.out.size))
          obtain ⟨A23, c23, rfl, _⟩ := ho.row
          have R23 := hide ho
          clear ho hb
          go_wp2_with fail
          refine (ownL_any gx bx f2 W23 Hx.out (by have := HL2.out; omega)).mono ?_
          rintro e W24 ⟨v24, rfl, ho, hb⟩
          replace ho := ho.low HB.out.size
          replace Hx := hide (Hx.out.keep hb)
          replace R22 := hide (OwnC.keep R22.out hb)
          replace R23 := hide (OwnC.keep R23.out hb)
          replace HB := hide (HB.out.trans (hb.mono HB.out.size))
          obtain ⟨A24, c24, rfl, _⟩ := ho.row
          have R24 := hide ho
          clear ho hb
          go_wp2_with fail
          refine (R.equalC_any A24 A22 _ _ c24 c22 (outC f2) (outC f2) W24 R24.out.rowAt.2.1 R22.out.rowAt.2.1 rfl rfl (by have := HL2.out; omega) (by have := HL2.out; omega)).mono ?_
          rintro e W25 ⟨rfl, hb⟩
          rw [decide_eq_true rfl]
          replace Hx := hide (Hx.out.keep hb)
          replace R22 := hide (OwnC.keep R22.out hb)
          replace R23 := hide (OwnC.keep R23.out hb)
          replace R24 := hide (OwnC.keep R24.out hb)
          replace HB := hide (HB.out.trans (hb.mono HB.out.size))
          clear hb
          go_wp2_with fail
          refine (partL_any gx bx f2 D _ dc ask W25 Hx.out (HD.out.keep HB.out) rfl (by omega) (by have := HL2.out; omega)).mono ?_
          rintro e W26 ⟨v26, rfl, ho, hb⟩
          replace ho := ho.low HB.out.size
          replace Hx := hide (Hx.out.keep hb)
          replace R22 := hide (OwnC.keep R22.out hb)
          replace R23 := hide (OwnC.keep R23.out hb)
          replace R24 := hide (OwnC.keep R24.out hb)
          replace HB := hide (HB.out.trans (hb.mono HB.out.size))
          rw [HPA.out] at ho
          obtain ⟨A26, c26, rfl, _⟩ := ho.row
          have R26 := hide ho
          clear ho hb
          go_wp2_with fail
          refine (R.Meet_any D A22 _ _ dc c22 ask (outC f2) W26 (HD.out.keep HB.out) R22.out.rowAt.2.1 rfl rfl (by omega) (by have := HL2.out; omega)).mono ?_
          rintro e W27 ⟨v27, rfl, ho, hb⟩
          replace ho := ho.low HB.out.size
          replace Hx := hide (Hx.out.keep hb)
          replace R22 := hide (OwnC.keep R22.out hb)
          replace R23 := hide (OwnC.keep R23.out hb)
          replace R24 := hide (OwnC.keep R24.out hb)
          replace R26 := hide (OwnC.keep R26.out hb)
          replace HB := hide (HB.out.trans (hb.mono HB.out.size))
          obtain ⟨A27, c27, rfl, _⟩ := ho.row
          have R27 := hide ho
          clear ho hb
          go_wp2_with fail
          refine (R.equalC_any A26 A27 _ _ c26 c27 (meetC ask (outC f2)) (meetC ask (outC f2)) W27 R26.out.rowAt.2.1 R27.out.rowAt.2.1 rfl rfl (by have := HMK.out; omega) (by have := HMK.out; omega)).mono ?_
          rintro e W28 ⟨rfl, hb⟩
          rw [decide_eq_true rfl]
          replace Hx := hide (Hx.out.keep hb)
          replace R22 := hide (OwnC.keep R22.out hb)
          replace R23 := hide (OwnC.keep R23.out hb)
          replace R24 := hide (OwnC.keep R24.out hb)
          replace R26 := hide (OwnC.keep R26.out hb)
          replace R27 := hide (OwnC.keep R27.out hb)
          replace HB := hide (HB.out.trans (hb.mono HB.out.size))
          clear hb
          go_wp2_with fail
          refine (lackL_any gx bx f2 D _ dc ask W28 Hx.out (HD.out.keep HB.out) rfl (by omega) (by have := HL2.out; omega)).mono ?_
          rintro e W29 ⟨v29, rfl, ho, hb⟩
          replace ho := ho.low HB.out.size
          replace Hx := hide (Hx.out.keep hb)
          replace R22 := hide (OwnC.keep R22.out hb)
          replace R23 := hide (OwnC.keep R23.out hb)
          replace R24 := hide (OwnC.keep R24.out hb)
          replace R26 := hide (OwnC.keep R26.out hb)
          replace R27 := hide (OwnC.keep R27.out hb)
          replace HB := hide (HB.out.trans (hb.mono HB.out.size))
          rw [HLA.out] at ho
          obtain ⟨A29, c29, rfl, _⟩ := ho.row
          have R29 := hide ho
          clear ho hb
          go_wp2_with fail
          refine (R.equalC_any A29 A23 _ _ c29 c23 (minusC ask (outC f2)) (minusC ask (outC f2)) W29 R29.out.rowAt.2.1 R23.out.rowAt.2.1 rfl rfl (by have := HLK.out; omega) (by have := HLK.out; omega)).mono ?_
          rintro e W30 ⟨rfl, hb⟩
          rw [decide_eq_true rfl]
          replace Hx := hide (Hx.out.keep hb)
          replace R22 := hide (OwnC.keep R22.out hb)
          replace R23 := hide (OwnC.keep R23.out hb)
          replace R24 := hide (OwnC.keep R24.out hb)
          replace R26 := hide (OwnC.keep R26.out hb)
          replace R27 := hide (OwnC.keep R27.out hb)
          replace R29 := hide (OwnC.keep R29.out hb)
          replace HB := hide (HB.out.trans (hb.mono HB.out.size))
          clear hb
          go_wp2_with fail
          refine (hasL_any gx bx f2 D _ dc ask W30 Hx.out (HD.out.keep HB.out) rfl (by omega)).mono ?_
          rintro e W31 ⟨rfl, hb⟩
          rw [HHA.out]
          replace Hx := hide (Hx.out.keep hb)
          replace R22 := hide (OwnC.keep R22.out hb)
          replace R23 := hide (OwnC.keep R23.out hb)
          replace R24 := hide (OwnC.keep R24.out hb)
          replace R26 := hide (OwnC.keep R26.out hb)
          replace R27 := hide (OwnC.keep R27.out hb)
          replace R29 := hide (OwnC.keep R29.out hb)
          replace HB := hide (HB.out.trans (hb.mono HB.out.size))
          clear hb
          clear HPA HLA HHA HMK R23 R24 R26 R27 R29
          generalize (minusC ask (outC f2)).length = u at *
          have hz : ((u : Int) == 0) = decide (u = 0) := by rw [Bool.eq_iff_iff, beq_iff_eq, decide_eq_true_eq]; omega
          have hz2 : decide ((u : Int) = 0) = decide (u = 0) := decide_eq_decide.2 (by omega)
          generalize decide (u = 0) = z at *
          cases z
          · go_wp2_with fail
            go_roundw
            case rel => exact ⟨q + 1, gx, bx, f2, by omega, rfl, by go_num, Hx, LOx, HL2, R22, HB⟩
            case measure => simp [intOf]; omega
          · go_wp2_with fail
            go_roundw
            case rel => exact ⟨q + 1, gx, bx, f2, by omega, rfl, by go_num, Hx, LOx, HL2, R22, HB⟩
            case measure => simp [intOf]; omega
        have c1b : decide (wh ≤ 2) = false := decide_eq_false c1
        by_cases c2 : wh ≤ 5
        · have c2b : decide (wh ≤ 5) = true := decide_eq_true c2
          obtain ⟨d0, d1⟩ := HCL.out
          go_wp2_with fail
          refine (cutL_any gx bx f mA _ mc ml wr Hx.out (HMR.out.keep HB.out) rfl (by omega) (by have := HLF.out; omega)).mono ?_
          rintro e W21 ⟨rfl, hl, hc⟩
          have hone := Hx.out.one
          replace HRR := hide (OwnC.otherL HRR.out hone hc)
          replace HB := hide (hc.below HB.out HB.out.size LOx.out)
          replace Hx := hide hl
          clear hl hc hone
          obtain ⟨b', off', he', hb', hcl'⟩ := HR.out.keep HB.out (by intro h0; rw [h0] at hlt; exact absurd hlt (Nat.not_lt_zero _))
          injection he' with he'
          injection he' with e1 e2
          subst e1 e2
          obtain ⟨d0, d1⟩ := hcl' q hlt
          rw [hts.out] at d0 d1
          simp only at d0 d1
          clear hcl' hb'
          go_wp2_with fail
          have HEQ := hide (cuts_is HNF.out ml).symm
          have HL2 : Hid ((outC (cuts f (neatC ml))).length ≤ 8 + 10 * (q + 1)) := hide (by have h1 := cuts_le (neatC ml) HNF.out; have h2 := neatC_le ml; have h3 := HLF.out; omega)
          refine (R.Minus_any A0 mA _ _ c0 mc (outC f) ml W21 HRR.out.rowAt.2.1 (HMR.out.keep HB.out) rfl rfl (by have := HLF.out; omega) (by omega)).mono ?_
          rintro e W22 ⟨v22, rfl, ho, hb⟩
          replace ho := ho.low HB.out.size
          replace Hx := hide (Hx.out.keep hb)
          replace HRR := hide (OwnC.keep HRR.out hb)
          replace HB := hide (HB.out.trans (hb.mono HB.out.size))
          rw [HEQ.out] at ho
          obtain ⟨A22, c22, rfl, _⟩ := ho.row
          have R22 := hide ho
          clear ho hb
          clear HEQ HRR
          generalize cuts f (neatC ml) = f2 at *
          go_wp2_with fail
          have HLK : Hid ((minusC ask (outC f2)).length ≤ 1000) := hide (by have h1 := minusC_le ask (outC f2); have h2 := HL2.out; omega)
          have HMK : Hid ((meetC ask (outC f2)).length ≤ 1000) := hide (by have h1 := meetC_le ask (outC f2); have h2 := HL2.out; omega)
          have HPA := hide (parts_is Hx.out.neat ask)
          have HLA := hide (lacks_is f2 ask)
          have HHA := hide (hasL_is f2 ask)
          refine (R.Minus_any D A22 _ _ dc c22 ask (outC f2) W22 (HD.out.keep HB.out) R22.out.rowAt.2.1 rfl rfl (by omega) (by have := HL2.out; omega)).mono ?_
          rintro e W23 ⟨v23, rfl, ho, hb⟩
          replace ho := ho.low HB.out.size
          replace Hx := hide (Hx.out.keep hb)
          replace R22 := hide (OwnC.keep R22.out hb)
          replace HB := hide (HB.out.trans (hb.mono HB.out.size))
          obtain ⟨A23, c23, rfl, _⟩ := ho.row
          have R23 := hide ho
          clear ho hb
          go_wp2_with fail
          refine (ownL_any gx bx f2 W23 Hx.out (by have := HL2.out; omega)).mono ?_
          rintro e W24 ⟨v24, rfl, ho, hb⟩
          replace ho := ho.low HB.out.size
          replace Hx := hide (Hx.out.keep hb)
          replace R22 := hide (OwnC.keep R22.out hb)
          replace R23 := hide (OwnC.keep R23.out hb)
          replace HB := hide (HB.out.trans (hb.mono HB.out.size))
          obtain ⟨A24, c24, rfl, _⟩ := ho.row
          have R24 := hide ho
          clear ho hb
          go_wp2_with fail
          refine (R.equalC_any A24 A22 _ _ c24 c22 (outC f2) (outC f2) W24 R24.out.rowAt.2.1 R22.out.rowAt.2.1 rfl rfl (by have := HL2.out; omega) (by have := HL2.out; omega)).mono ?_
          rintro e W25 ⟨rfl, hb⟩
          rw [decide_eq_true rfl]
          replace Hx := hide (Hx.out.keep hb)
          replace R22 := hide (OwnC.keep R22.out hb)
          replace R23 := hide (OwnC.keep R23.out hb)
          replace R24 := hide (OwnC.keep R24.out hb)
          replace HB := hide (HB.out.trans (hb.mono HB.out.size))
          clear hb
          go_wp2_with fail
          refine (partL_any gx bx f2 D _ dc ask W25 Hx.out (HD.out.keep HB.out) rfl (by omega) (by have := HL2.out; omega)).mono ?_
          rintro e W26 ⟨v26, rfl, ho, hb⟩
          replace ho := ho.low HB.out.size
          replace Hx := hide (Hx.out.keep hb)
          replace R22 := hide (OwnC.keep R22.out hb)
          replace R23 := hide (OwnC.keep R23.out hb)
          replace R24 := hide (OwnC.keep R24.out hb)
          replace HB := hide (HB.out.trans (hb.mono HB.out.size))
          rw [HPA.out] at ho
          obtain ⟨A26, c26, rfl, _⟩ := ho.row
          have R26 := hide ho
          clear ho hb
          go_wp2_with fail
          refine (R.Meet_any D A22 _ _ dc c22 ask (outC f2) W26 (HD.out.keep HB.out) R22.out.rowAt.2.1 rfl rfl (by omega) (by have := HL2.out; omega)).mono ?_
          rintro e W27 ⟨v27, rfl, ho, hb⟩
          replace ho := ho.low HB.out.size
          replace Hx := hide (Hx.out.keep hb)
          replace R22 := hide (OwnC.keep R22.out hb)
          replace R23 := hide (OwnC.keep R23.out hb)
          replace R24 := hide (OwnC.keep R24.out hb)
          replace R26 := hide (OwnC.keep R26.out hb)
          replace HB := hide (HB.out.trans (hb.mono HB.out.size))
          obtain ⟨A27, c27, rfl, _⟩ := ho.row
          have R27 := hide ho
          clear ho hb
          go_wp2_with fail
          refine (R.equalC_any A26 A27 _ _ c26 c27 (meetC ask (outC f2)) (meetC ask (outC f2)) W27 R26.out.rowAt.2.1 R27.out.rowAt.2.1 rfl rfl (by have := HMK.out; omega) (by have := HMK.out; omega)).mono ?_
          rintro e W28 ⟨rfl, hb⟩
          rw [decide_eq_true rfl]
          replace Hx := hide (Hx.out.keep hb)
          replace R22 := hide (OwnC.keep R22.out hb)
          replace R23 := hide (OwnC.keep R23.out hb)
          replace R24 := hide (OwnC.keep R24.out hb)
          replace R26 := hide (OwnC.keep R26.out hb)
          replace R27 := hide (OwnC.keep R27.out hb)
          replace HB := hide (HB.out.trans (hb.mono HB.out.size))
          clear hb
          go_wp2_with fail
          refine (lackL_any gx bx f2 D _ dc ask W28 Hx.out (HD.out.keep HB.out) rfl (by omega) (by have := HL2.out; omega)).mono ?_
          rintro e W29 ⟨v29, rfl, ho, hb⟩
          replace ho := ho.low HB.out.size
          replace Hx := hide (Hx.out.keep hb)
          replace R22 := hide (OwnC.keep R22.out hb)
          replace R23 := hide (OwnC.keep R23.out hb)
          replace R24 := hide (OwnC.keep R24.out hb)
          replace R26 := hide (OwnC.keep R26.out hb)
          replace R27 := hide (OwnC.keep R27.out hb)
          replace HB := hide (HB.out.trans (hb.mono HB.out.size))
          rw [HLA.out] at ho
          obtain ⟨A29, c29, rfl, _⟩ := ho.row
          have R29 := hide ho
          clear ho hb
          go_wp2_with fail
          refine (R.equalC_any A29 A23 _ _ c29 c23 (minusC ask (outC f2)) (minusC ask (outC f2)) W29 R29.out.rowAt.2.1 R23.out.rowAt.2.1 rfl rfl (by have := HLK.out; omega) (by have := HLK.out; omega)).mono ?_
          rintro e W30 ⟨rfl, hb⟩
          rw [decide_eq_true rfl]
          replace Hx := hide (Hx.out.keep hb)
          replace R22 := hide (OwnC.keep R22.out hb)
          replace R23 := hide (OwnC.keep R23.out hb)
          replace R24 := hide (OwnC.keep R24.out hb)
          replace R26 := hide (OwnC.keep R26.out hb)
          replace R27 := hide (OwnC.keep R27.out hb)
          replace R29 := hide (OwnC.keep R29.out hb)
          replace HB := hide (HB.out.trans (hb.mono HB.out.size))
          clear hb
          go_wp2_with fail
          refine (hasL_any gx bx f2 D _ dc ask W30 Hx.out (HD.out.keep HB.out) rfl (by omega)).mono ?_
          rintro e W31 ⟨rfl, hb⟩
          rw [HHA.out]
          replace Hx := hide (Hx.out.keep hb)
          replace R22 := hide (OwnC.keep R22.out hb)
          replace R23 := hide (OwnC.keep R23.out hb)
          replace R24 := hide (OwnC.keep R24.out hb)
          replace R26 := hide (OwnC.keep R26.out hb)
          replace R27 := hide (OwnC.keep R27.out hb)
          replace R29 := hide (OwnC.keep R29.out hb)
          replace HB := hide (HB.out.trans (hb.mono HB.out.size))
          clear hb
          clear HPA HLA HHA HMK R23 R24 R26 R27 R29
          generalize (minusC ask (outC f2)).length = u at *
          have hz : ((u : Int) == 0) = decide (u = 0) := by rw [Bool.eq_iff_iff, beq_iff_eq, decide_eq_true_eq]; omega
          have hz2 : decide ((u : Int) = 0) = decide (u = 0) := decide_eq_decide.2 (by omega)
          generalize decide (u = 0) = z at *
          cases z
          · go_wp2_with fail
            go_roundw
            case rel => exact ⟨q + 1, gx, bx, f2, by omega, rfl, by go_num, Hx, LOx, HL2, R22, HB⟩
            case measure => simp [intOf]; omega
          · go_wp2_with fail
            go_roundw
            case rel => exact ⟨q + 1, gx, bx, f2, by omega, rfl, by go_num, Hx, LOx, HL2, R22, HB⟩
            case measure => simp [intOf]; omega
        · have c2b : decide (wh ≤ 5) = false := decide_eq_false c2
          obtain ⟨d0, d1⟩ := HCL.out
          go_wp2_with fail
          refine (copyL_any gx bx f wr Hx.out).mono ?_
          rintro e W21 ⟨gz, bz, rfl, hg, hlo, hl, hb⟩
          have APxz : Hid (∀ r q, r < 8 → q < 8 → bx r ≠ bz q) := hide fun r q hr hq e => by have h1 := (Hx.out.set r hr).lt; have h2 := hlo q hq; omega
          have APzx : Hid (∀ r q, r < 8 → q < 8 → bz r ≠ bx q) := hide fun r q hr hq e => by have h1 := (Hx.out.set q hq).lt; have h2 := hlo r hr; omega
          have LOz : Hid (∀ r, r < 8 → w.heap.size ≤ bz r) := hide fun r hr => Nat.le_trans HB.out.size (hlo r hr)
          replace Hx := hide (Hx.out.keep hb)
          replace HRR := hide (OwnC.keep HRR.out hb)
          replace HB := hide (HB.out.trans (hb.mono HB.out.size))
          have Hz := hide hl
          clear hl hlo hg hb
          go_wp2_with fail
          refine (ownL_any gx bx f W21 Hx.out (by have := HLF.out; omega)).mono ?_
          rintro e W22 ⟨v22, rfl, ho, hb⟩
          replace ho := ho.low HB.out.size
          replace Hx := hide (Hx.out.keep hb)
          replace Hz := hide (Hz.out.keep hb)
          replace HRR := hide (OwnC.keep HRR.out hb)
          replace HB := hide (HB.out.trans (hb.mono HB.out.size))
          obtain ⟨A22, c22, rfl, _⟩ := ho.row
          have R22 := hide ho
          clear ho hb
          go_wp2_with fail
          refine (cutL_any gx bx f A22 _ c22 (outC f) W22 Hx.out R22.out.rowAt.2.1 rfl (by have := HLF.out; omega) (by have := HLF.out; omega)).mono ?_
          rintro e W23 ⟨rfl, hl, hc⟩
          have hone := Hx.out.one
          replace Hz := hide (Hz.out.otherL hone hc APzx.out)
          replace HRR := hide (OwnC.otherL HRR.out hone hc)
          replace R22 := hide (OwnC.otherL R22.out hone hc)
          replace HB := hide (hc.below HB.out HB.out.size LOx.out)
          replace Hx := hide hl
          clear hl hc hone
          clear Hx LOx R22
          have HL2 : Hid ((outC f).length ≤ 8 + 10 * (q + 1)) := hide (by have h3 := HLF.out; omega)
          go_wp2_with fail
          have HLK : Hid ((minusC ask (outC f)).length ≤ 1000) := hide (by have h1 := minusC_le ask (outC f); have h2 := HL2.out; omega)
          have HMK : Hid ((meetC ask (outC f)).length ≤ 1000) := hide (by have h1 := meetC_le ask (outC f); have h2 := HL2.out; omega)
          have HPA := hide (parts_is Hz.out.neat ask)
          have HLA := hide (lacks_is f ask)
          have HHA := hide (hasL_is f ask)
          refine (R.Minus_any D A0 _ _ dc c0 ask (outC f) W23 (HD.out.keep HB.out) HRR.out.rowAt.2.1 rfl rfl (by omega) (by have := HL2.out; omega)).mono ?_
          rintro e W24 ⟨v24, rfl, ho, hb⟩
          replace ho := ho.low HB.out.size
          replace Hz := hide (Hz.out.keep hb)
          replace HRR := hide (OwnC.keep HRR.out hb)
          replace HB := hide (HB.out.trans (hb.mono HB.out.size))
          obtain ⟨A24, c24, rfl, _⟩ := ho.row
          have R24 := hide ho
          clear ho hb
          go_wp2_with fail
          refine (ownL_any gz bz f W24 Hz.out (by have := HL2.out; omega)).mono ?_
          rintro e W25 ⟨v25, rfl, ho, hb⟩
          replace ho := ho.low HB.out.size
          replace Hz := hide (Hz.out.keep hb)
          replace HRR := hide (OwnC.keep HRR.out hb)
          replace R24 := hide (OwnC.keep R24.out hb)
          replace HB := hide (HB.out.trans (hb.mono HB.out.size))
          obtain ⟨A25, c25, rfl, _⟩ := ho.row
          have R25 := hide ho
          clear ho hb
          go_wp2_with fail
          refine (R.equalC_any A25 A0 _ _ c25 c0 (outC f) (outC f) W25 R25.out.rowAt.2.1 HRR.out.rowAt.2.1 rfl rfl (by have := HL2.out; omega) (by have := HL2.out; omega)).mono ?_
          rintro e W26 ⟨rfl, hb⟩
          rw [decide_eq_true rfl]
          replace Hz := hide (Hz.out.keep hb)
          replace HRR := hide (OwnC.keep HRR.out hb)
          replace R24 := hide (OwnC.keep R24.out hb)
          replace R25 := hide (OwnC.keep R25.out hb)
          replace HB := hide (HB.out.trans (hb.mono HB.out.size))
          clear hb
          go_wp2_with fail
          refine (partL_any gz bz f D _ dc ask W26 Hz.out (HD.out.keep HB.out) rfl (by omega) (by have := HL2.out; omega)).mono ?_
          rintro e W27 ⟨v27, rfl, ho, hb⟩
          replace ho := ho.low HB.out.size
          replace Hz := hide (Hz.out.keep hb)
          replace HRR := hide (OwnC.keep HRR.out hb)
          replace R24 := hide (OwnC.keep R24.out hb)
          replace R25 := hide (OwnC.keep R25.out hb)
          replace HB := hide (HB.out.trans (hb.mono HB.out.size))
          rw [HPA.out] at ho
          obtain ⟨A27, c27, rfl, _⟩ := ho.row
          have R27 := hide ho
          clear ho hb
          go_wp2_with fail
          refine (R.Meet_any D A0 _ _ dc c0 ask (outC f) W27 (HD.out.keep HB.out) HRR.out.rowAt.2.1 rfl rfl (by omega) (by have := HL2.out; omega)).mono ?_
          rintro e W28 ⟨v28, rfl, ho, hb⟩
          replace ho := ho.low HB.out.size
          replace Hz := hide (Hz.out.keep hb)
          replace HRR := hide (OwnC.keep HRR.out hb)
          replace R24 := hide (OwnC.keep R24.out hb)
          replace R25 := hide (OwnC.keep R25.out hb)
          replace R27 := hide (OwnC.keep R27.out hb)
          replace HB := hide (HB.out.trans (hb.mono HB.out.size))
          obtain ⟨A28, c28, rfl, _⟩ := ho.row
          have R28 := hide ho
          clear ho hb
          go_wp2_with fail
          refine (R.equalC_any A27 A28 _ _ c27 c28 (meetC ask (outC f)) (meetC ask (outC f)) W28 R27.out.rowAt.2.1 R28.out.rowAt.2.1 rfl rfl (by have := HMK.out; omega) (by have := HMK.out; omega)).mono ?_
          rintro e W29 ⟨rfl, hb⟩
          rw [decide_eq_true rfl]
          replace Hz := hide (Hz.out.keep hb)
          replace HRR := hide (OwnC.keep HRR.out hb)
          replace R24 := hide (OwnC.keep R24.out hb)
          replace R25 := hide (OwnC.keep R25.out hb)
          replace R27 := hide (OwnC.keep R27.out hb)
          replace R28 := hide (OwnC.keep R28.out hb)
          replace HB := hide (HB.out.trans (hb.mono HB.out.size))
          clear hb
          go_wp2_with fail
          refine (lackL_any gz bz f D _ dc ask W29 Hz.out (HD.out.keep HB.out) rfl (by omega) (by have := HL2.out; omega)).mono ?_
          rintro e W30 ⟨v30, rfl, ho, hb⟩
          replace ho := ho.low HB.out.size
          replace Hz := hide (Hz.out.keep hb)
          replace HRR := hide (OwnC.keep HRR.out hb)
          replace R24 := hide (OwnC.keep R24.out hb)
          replace R25 := hide (OwnC.keep R25.out hb)
          replace R27 := hide (OwnC.keep R27.out hb)
          replace R28 := hide (OwnC.keep R28.out hb)
          replace HB := hide (HB.out.trans (hb.mono HB.out.size))
          rw [HLA.out] at ho
          obtain ⟨A30, c30, rfl, _⟩ := ho.row
          have R30 := hide ho
          clear ho hb
          go_wp2_with fail
          refine (R.equalC_any A30 A24 _ _ c30 c24 (minusC ask (outC f)) (minusC ask (outC f)) W30 R30.out.rowAt.2.1 R24.out.rowAt.2.1 rfl rfl (by have := HLK.out; omega) (by have := HLK.out; omega)).mono ?_
          rintro e W31 ⟨rfl, hb⟩
          rw [decide_eq_true rfl]
          replace Hz := hide (Hz.out.keep hb)
          replace HRR := hide (OwnC.keep HRR.out hb)
          replace R24 := hide (OwnC.keep R24.out hb)
          replace R25 := hide (OwnC.keep R25.out hb)
          replace R27 := hide (OwnC.keep R27.out hb)
          replace R28 := hide (OwnC.keep R28.out hb)
          replace R30 := hide (OwnC.keep R30.out hb)
          replace HB := hide (HB.out.trans (hb.mono HB.out.size))
          clear hb
          go_wp2_with fail
          refine (hasL_any gz bz f D _ dc ask W31 Hz.out (HD.out.keep HB.out) rfl (by omega)).mono ?_
          rintro e W32 ⟨rfl, hb⟩
          rw [HHA.out]
          replace Hz := hide (Hz.out.keep hb)
          replace HRR := hide (OwnC.keep HRR.out hb)
          replace R24 := hide (OwnC.keep R24.out hb)
          replace R25 := hide (OwnC.keep R25.out hb)
          replace R27 := hide (OwnC.keep R27.out hb)
          replace R28 := hide (OwnC.keep R28.out hb)
          replace R30 := hide (OwnC.keep R30.out hb)
          replace HB := hide (HB.out.trans (hb.mono HB.out.size))
          clear hb
          clear HPA HLA HHA HMK R24 R25 R27 R28 R30
          generalize (minusC ask (outC f)).length = u at *
          have hz : ((u : Int) == 0) = decide (u = 0) := by rw [Bool.eq_iff_iff, beq_iff_eq, decide_eq_true_eq]; omega
          have hz2 : decide ((u : Int) = 0) = decide (u = 0) := decide_eq_decide.2 (by omega)
          generalize decide (u = 0) = z at *
          cases z
          · go_wp2_with fail
            go_roundw
            case rel => exact ⟨q + 1, gz, bz, f, by omega, rfl, by go_num, Hz, LOz, HL2, HRR, HB⟩
            case measure => simp [intOf]; omega
          · go_wp2_with fail
            go_roundw
            case rel => exact ⟨q + 1, gz, bz, f, by omega, rfl, by go_num, Hz, LOz, HL2, HRR, HB⟩
            case measure => simp [intOf]; omega
      · obtain rfl : q = ts.length := by omega
        go_wp2_with fail
        refine (ownL_any gx bx f wr Hx.out (by have := HLF.out; omega)).mono ?_
        rintro e W21 ⟨v21, rfl, ho, hb⟩
        replace ho := ho.low HB.out.size
        replace Hx := hide (Hx.out.keep hb)
        replace HRR := hide (OwnC.keep HRR.out hb)
        replace HB := hide (HB.out.trans (hb.mono HB.out.size))
        obtain ⟨A21, c21, rfl, _⟩ := ho.row
        have R21 := hide ho
        clear ho hb
        go_wp2_with fail
        refine (R.equalC_any A21 A0 _ _ c21 c0 (outC f) (outC f) W21 R21.out.rowAt.2.1 HRR.out.rowAt.2.1 rfl rfl (by have := HLF.out; omega) (by have := HLF.out; omega)).mono ?_
        rintro e W22 ⟨rfl, hb⟩
        rw [decide_eq_true rfl]
        replace Hx := hide (Hx.out.keep hb)
        replace HRR := hide (OwnC.keep HRR.out hb)
        replace R21 := hide (OwnC.keep R21.out hb)
        replace HB := hide (HB.out.trans (hb.mono HB.out.size))
        clear hb
        go_wp2_with fail
        go_ret
        exact ⟨rfl, HB.out⟩
end Go.Proofs.Ytphojcnehgdbmaa.S2

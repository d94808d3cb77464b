/- LeaseMoves. Written by recipes/le5.py. -/
import Derived.Test.YtphojcnehgdbmaaLeK
namespace Go.Proofs.Ytphojcnehgdbmaa.S2
open Go.RowKit Spn Cl Le

/-- what both have at the beginning. -/
def bothF (k : Nat) : Rm := neatF (outC (begF k 0) ++ outC (begF k 1))
theorem both_neat (k : Nat) : NeatR (bothF k) := fun r _ => neatF_neat _ r
theorem both_le (k : Nat) : (outC (bothF k)).length ≤ 16 := by
  have h := neatC_le (outC (begF k 0) ++ outC (begF k 1))
  have h0 := beg_le k 0
  have h1 := beg_le k 1
  rw [List.length_append] at h
  have e : neatC (outC (begF k 0) ++ outC (begF k 1)) = outC (bothF k) := rfl
  rw [e] at h
  omega
theorem both_two (k : Nat) : Two (bothF k) (begF k 0) (begF k 1) :=
  ⟨beg_neat k 0, beg_neat k 1, fun r _ m h => by
    obtain ⟨h1, h2⟩ := h
    unfold begF at h1 h2
    split at h1
    · split at h2
      · omega
      · exact has_nil m h2
    · exact has_nil m h1, fun r hr m => by
    unfold bothF
    rw [neatF_has _ r hr, hasC_append, outC_has _ r hr, outC_has _ r hr]⟩
/-- two leases, so many claims each at most. -/
structure Both (A : Rm) (N : Nat) (f g : Rm) : Prop where
  two : Two A f g
  lf : (outC f).length ≤ N
  lg : (outC g).length ≤ N
theorem Both.swap {A f g : Rm} {N : Nat} (h : Both A N f g) : Both A N g f := ⟨h.two.swap, h.lg, h.lf⟩
theorem Both.move {A f g : Rm} {N : Nat} (h : Both A N f g) (hA : (outC A).length ≤ 16) (c : List C) (hc : c.length ≤ 10) : Both A (N + 50) (cuts f (neatC (parts f (neatC c)))) (adds g (neatC (parts f (neatC c)))) := by
  have h1 := move_le h.two.nf c _ rfl
  have h2 := h.two.move c _ rfl
  have h3 := h2.le
  have := h.lf
  exact ⟨h2, by omega, by omega⟩
theorem parts_le (f : Rm) (hf : NeatR f) (c : List C) : (parts f (neatC c)).length ≤ (outC f).length + c.length := by
  rw [parts_is hf]
  have := meetC_le c (outC f)
  omega

set_option maxRecDepth 100000 in
set_option maxHeartbeats 8000000 in
theorem moves13_any (x : Int) (A : Option Addr) (n c : Nat) (ts : List Stp) (w : World) (x0 : 0 ≤ x) (_x1 : x ≤ 255) (hr : RowT w A ts ∧ Stps w ts) (he : n = ts.length) (hn : ts.length ≤ maxLen) :
    Calls Try.prog 5 #[.int .u8 x, .slice A n c] w fun e w' => e = .returned (.bool true) ∧ Below w.heap.size w w' := by
  subst he
  have HR := hide hr.1
  have HS := hide hr.2
  have HN := hide hn
  clear hr hn
  have t1 : x.tmod 3 = x % 3 := Int.tmod_eq_emod_of_nonneg (by omega)
  have t2 : IntKind.u8.wrap (x % 3) = x % 3 := by unfold IntKind.wrap; simp [IntKind.bits, IntKind.signed]; omega
  have t3 : IntKind.i64.wrap (x % 3) = x % 3 := IntWalk.i64_in _ (by omega)
  obtain ⟨k, hk⟩ : ∃ k : Nat, x % 3 + 2 = (k : Int) := ⟨(x % 3 + 2).toNat, by omega⟩
  have hk0 : (2 : Int) ≤ (k : Int) := by omega
  have hk4 : (k : Int) ≤ 4 := by omega
  have t4 : IntKind.i64.wrap (x % 3 + 2) = (k : Int) := by rw [hk]; exact IntWalk.i64_in _ (by omega)
  have e1 : min (max (k : Int) 1) 4 = (k : Int) := by omega
  have e2 : min (max (0 : Int) 0) ((k : Int) - 1) = ((0 : Nat) : Int) := by omega
  have e3 : min (max (1 : Int) 0) ((k : Int) - 1) = ((1 : Nat) : Int) := by omega
  have E1 := hide e1
  have E2 := hide e2
  have E3 := hide e3
  clear e1 e2 e3
  have HB := hide (start w)
  go_enter Try.func5, Try.ntmps5
  go_wp2_with fail
  refine (known_any w).mono ?_
  rintro e W1 ⟨rfl, hb⟩
  replace HB := hide (HB.out.trans (hb.mono HB.out.size))
  clear hb
  go_wp2_with fail
  cases hfew : fewB ts
  · have HF := hide hfew
    clear hfew
    refine (few_any A _ c ts W1 (HR.out.keep HB.out) (HS.out.keep HB.out) rfl HN.out).mono ?_
    rintro e W2 ⟨rfl, hb⟩
    rw [HF.out]
    replace HB := hide (HB.out.trans (hb.mono HB.out.size))
    clear hb
    go_wp2_with fail
    go_ret
    exact ⟨rfl, HB.out⟩
  · have HF := hide hfew
    have HFS := hide ((fewB_iff ts).1 hfew)
    have hlen : ts.length ≤ 40 := HFS.out.2
    clear hfew
    refine (few_any A _ c ts W1 (HR.out.keep HB.out) (HS.out.keep HB.out) rfl HN.out).mono ?_
    rintro e W2 ⟨rfl, hb⟩
    rw [HF.out]
    replace HB := hide (HB.out.trans (hb.mono HB.out.size))
    clear hb
    go_wp2_with fail
    refine (newL_any 0 (k : Int) k 0 W2 E1.out E2.out).mono ?_
    rintro e W3 ⟨ga, ba, rfl, hg, hlo, hl, hb⟩
    have LOa : Hid (∀ r, r < 8 → w.heap.size ≤ ba r) := hide fun r hr => Nat.le_trans HB.out.size (hlo r hr)
    replace HB := hide (HB.out.trans (hb.mono HB.out.size))
    have Ha := hide hl
    clear hl hlo hg hb
    go_wp2_with fail
    refine (newL_any 1 (k : Int) k 1 W3 E1.out E3.out).mono ?_
    rintro e W4 ⟨gb, bb, rfl, hg, hlo, hl, hb⟩
    have APab : Hid (∀ r q, r < 8 → q < 8 → ba r ≠ bb q) := hide fun r q hr hq e => by have h1 := (Ha.out.set r hr).lt; have h2 := hlo q hq; omega
    have APba : Hid (∀ r q, r < 8 → q < 8 → bb r ≠ ba q) := hide fun r q hr hq e => by have h1 := (Ha.out.set q hq).lt; have h2 := hlo r hr; omega
    have LOb : Hid (∀ r, r < 8 → w.heap.size ≤ bb r) := hide fun r hr => Nat.le_trans HB.out.size (hlo r hr)
    replace Ha := hide (Ha.out.keep hb)
    replace HB := hide (HB.out.trans (hb.mono HB.out.size))
    have Hb := hide hl
    clear hl hlo hg hb
    go_wp2_with fail
    refine (ownL_any ga ba (begF k 0) W4 Ha.out (by have := beg_le k 0; omega)).mono ?_
    rintro e W5 ⟨v5, rfl, ho, hb⟩
    replace ho := ho.low HB.out.size
    replace Ha := hide (Ha.out.keep hb)
    replace Hb := hide (Hb.out.keep hb)
    replace HB := hide (HB.out.trans (hb.mono HB.out.size))
    obtain ⟨A5, c5, rfl, _⟩ := ho.row
    have R5 := hide ho
    clear ho hb
    go_wp2_with fail
    refine (ownL_any gb bb (begF k 1) W5 Hb.out (by have := beg_le k 1; omega)).mono ?_
    rintro e W6 ⟨v6, rfl, ho, hb⟩
    replace ho := ho.low HB.out.size
    replace Ha := hide (Ha.out.keep hb)
    replace Hb := hide (Hb.out.keep hb)
    replace R5 := hide (OwnC.keep R5.out hb)
    replace HB := hide (HB.out.trans (hb.mono HB.out.size))
    obtain ⟨A6, c6, rfl, _⟩ := ho.row
    have R6 := hide ho
    clear ho hb
    go_wp2_with fail
    refine (R.join_any A5 _ c5 (outC (begF k 0)) A6 _ c6 (outC (begF k 1)) W6 R5.out.rowAt.2.1 R5.out.rowAt.2.2 R6.out.rowAt.2.1 R6.out.rowAt.2.2 rfl rfl (by have := beg_le k 0; omega) (by have := beg_le k 1; omega)).mono ?_
    rintro e W7 ⟨v7, rfl, ho, hb⟩
    replace ho := ho.low HB.out.size
    replace Ha := hide (Ha.out.keep hb)
    replace Hb := hide (Hb.out.keep hb)
    replace R5 := hide (OwnC.keep R5.out hb)
    replace R6 := hide (OwnC.keep R6.out hb)
    replace HB := hide (HB.out.trans (hb.mono HB.out.size))
    obtain ⟨A7, c7, rfl, _⟩ := ho.row
    have R7 : Hid (OwnC W7 w.heap.size (.slice A7 (outC (bothF k)).length c7) (outC (bothF k))) := hide ho
    clear ho hb
    have eall : neatC (outC (begF k 0) ++ outC (begF k 1)) = outC (bothF k) := rfl
    (try rw [eall])
    clear eall t1 t2 t3 t4 hk R5 R6
    go_wp2_with fail
    have HBO : Hid (Both (bothF k) 8 (begF k 0) (begF k 1)) := hide ⟨both_two k, beg_le k 0, beg_le k 1⟩
    have HAN := hide (both_neat k)
    have HAL := hide (both_le k)
    generalize bothF k = AL at *
    go_loopw [9] (fun i wr => ∃ (q : Nat) (fa fb : Rm), q ≤ ts.length ∧ i = .int .i64 q ∧ Hid (LeaseAt wr ga ba fa) ∧ Hid (LeaseAt wr gb bb fb) ∧ Hid (Both AL (8 + 50 * q) fa fb) ∧ Hid (OwnC wr w.heap.size (.slice A7 (outC AL).length c7) (outC AL)) ∧ Hid (Below w.heap.size w wr)) (fun i _ => ts.length - (intOf i).toNat)
    case atStart => exact ⟨0, begF k 0, begF k 1, Nat.zero_le _, rfl, Ha, Hb, HBO, R7, HB⟩
    case round =>
      clear Ha Hb HBO R7 HB
      obtain ⟨q, fa, fb, hq, rfl, Ha, Hb, HBO, R7, HB⟩ := hrel
      by_cases hlt : q < ts.length
      · obtain ⟨b, off, rfl, hb, hcl⟩ := HR.out.keep HB.out (by intro h0; rw [h0] at hlt; exact absurd hlt (Nat.not_lt_zero _))
        have hi0 : (0 : Int) ≤ (q : Int) := by omega
        have hi1 : (q : Int) < (ts.length : Int) := by omega
        obtain ⟨m, hm⟩ : ∃ m, ts[q] = m := ⟨_, rfl⟩
        obtain ⟨d0, d1⟩ := hcl q hlt
        rw [hm] at d0 d1
        have hmm := HS.out ts[q] (List.getElem_mem hlt)
        have hm10 := HFS.out.1 ts[q] (List.getElem_mem hlt)
        rw [hm] at hmm hm10
        obtain ⟨wh, mA, mc, ml⟩ := m
        simp only at d0 d1 hmm hm10
        have HMR := hide hmm.1
        have hmt : IntKind.i64.wrap (wh.tmod 2) = wh.tmod 2 := by
          have h1 := Int.tmod_lt_of_pos wh (show (0 : Int) < 2 by omega)
          have h2 := Int.lt_tmod_of_pos wh (show (0 : Int) < 2 by omega)
          exact IntWalk.i64_in _ (by omega)
        have HLa := hide HBO.out.lf
        have HLb := hide HBO.out.lg
        clear hcl hm hmm
        cases hev : (wh.tmod 2 != 0)
        · have hev2 : wh.tmod 2 = 0 := by simpa using hev
          have HMV := hide (HBO.out.move HAL.out ml hm10)
          have HPL := hide (parts_le fa Ha.out.neat ml)
          have HPN : Hid (NeatR fb) := hide Hb.out.neat
          go_wp2_with fail
          refine (partL_any ga ba fa mA _ mc ml wr Ha.out (HMR.out.keep HB.out) rfl (by omega) (by have := HLa.out; omega)).mono ?_
          rintro e W21 ⟨v21, rfl, ho, hb⟩
          replace ho := ho.low HB.out.size
          replace Ha := hide (Ha.out.keep hb)
          replace Hb := hide (Hb.out.keep hb)
          replace R7 := hide (OwnC.keep R7.out hb)
          replace HB := hide (HB.out.trans (hb.mono HB.out.size))
          obtain ⟨A21, c21, rfl, _⟩ := ho.row
          have R21 := hide ho
          clear ho hb
          have HAD := hide (add_has HPN.out (parts fa (neatC ml)))
          generalize parts fa (neatC ml) = P at *
          go_wp2_with fail
          refine (cutL_any ga ba fa A21 _ c21 P W21 Ha.out R21.out.rowAt.2.1 rfl (by have := HPL.out; have := HLa.out; omega) (by have := HLa.out; omega)).mono ?_
          rintro e W22 ⟨rfl, hl, hc⟩
          have hone := Ha.out.one
          replace Hb := hide (Hb.out.otherL hone hc APba.out)
          replace R7 := hide (OwnC.otherL R7.out hone hc)
          replace R21 := hide (OwnC.otherL R21.out hone hc)
          replace HB := hide (hc.below HB.out HB.out.size LOa.out)
          replace Ha := hide hl
          clear hl hc hone
          go_wp2_with fail
          refine (addL_any gb bb fb A21 _ c21 P W22 Hb.out R21.out.rowAt.2.1 rfl (by have := HPL.out; have := HLa.out; omega) (by have := HLb.out; omega)).mono ?_
          rintro e W23 ⟨rfl, hl, hc⟩
          have hone := Hb.out.one
          replace Ha := hide (Ha.out.otherL hone hc APab.out)
          replace R7 := hide (OwnC.otherL R7.out hone hc)
          replace R21 := hide (OwnC.otherL R21.out hone hc)
          replace HB := hide (hc.below HB.out HB.out.size LOb.out)
          replace Hb := hide hl
          clear hl hc hone
          have HNB : Hid (Both AL (8 + 50 * (q + 1)) (cuts fa (neatC P)) (adds fb (neatC P))) := hide (by have h := HMV.out; rw [show 8 + 50 * (q + 1) = 8 + 50 * q + 50 by omega]; exact h)
          generalize cuts fa (neatC P) = fa2 at *
          generalize adds fb (neatC P) = fb2 at *
          have HMT := hide HNB.out.two.meet
          have HJN := hide (HNB.out.two.join HAN.out)
          have HL2 := hide HNB.out.lf
          have HL3 := hide HNB.out.lg
          clear HMV
          go_wp2_with fail
          refine (ownL_any ga ba fa2 W23 Ha.out (by have := HL2.out; omega)).mono ?_
          rintro e W24 ⟨v24, rfl, ho, hb⟩
          replace ho := ho.low HB.out.size
          replace Ha := hide (Ha.out.keep hb)
          replace Hb := hide (Hb.out.keep hb)
          replace R7 := hide (OwnC.keep R7.out hb)
          replace R21 := hide (OwnC.keep R21.out hb)
          replace HB := hide (HB.out.trans (hb.mono HB.out.size))
          obtain ⟨A24, c24, rfl, _⟩ := ho.row
          have R24 := hide ho
          clear ho hb
          go_wp2_with fail
          refine (ownL_any gb bb fb2 W24 Hb.out (by have := HL3.out; omega)).mono ?_
          rintro e W25 ⟨v25, rfl, ho, hb⟩
          replace ho := ho.low HB.out.size
          replace Ha := hide (Ha.out.keep hb)
          replace Hb := hide (Hb.out.keep hb)
          replace R7 := hide (OwnC.keep R7.out hb)
          replace R21 := hide (OwnC.keep R21.out hb)
          replace R24 := hide (OwnC.keep R24.out hb)
          replace HB := hide (HB.out.trans (hb.mono HB.out.size))
          obtain ⟨A25, c25, rfl, _⟩ := ho.row
          have R25 := hide ho
          clear ho hb
          go_wp2_with fail
          refine (R.Meet_any A24 A25 _ _ c24 c25 (outC fa2) (outC fb2) W25 R24.out.rowAt.2.1 R25.out.rowAt.2.1 rfl rfl (by have := HL2.out; omega) (by have := HL3.out; omega)).mono ?_
          rintro e W26 ⟨v26, rfl, ho, hb⟩
          replace ho := ho.low HB.out.size
          replace Ha := hide (Ha.out.keep hb)
          replace Hb := hide (Hb.out.keep hb)
          replace R7 := hide (OwnC.keep R7.out hb)
          replace R21 := hide (OwnC.keep R21.out hb)
          replace R24 := hide (OwnC.keep R24.out hb)
          replace R25 := hide (OwnC.keep R25.out hb)
          replace HB := hide (HB.out.trans (hb.mono HB.out.size))
          rw [HMT.out] at ho
          obtain ⟨A26, c26, rfl, _⟩ := ho.row
          have R26 := hide ho
          clear ho hb
          go_wp2_with fail
          refine (ownL_any ga ba fa2 W26 Ha.out (by have := HL2.out; omega)).mono ?_
          rintro e W27 ⟨v27, rfl, ho, hb⟩
          replace ho := ho.low HB.out.size
          replace Ha := hide (Ha.out.keep hb)
          replace Hb := hide (Hb.out.keep hb)
          replace R7 := hide (OwnC.keep R7.out hb)
          replace R21 := hide (OwnC.keep R21.out hb)
          replace R24 := hide (OwnC.keep R24.out hb)
          replace R25 := hide (OwnC.keep R25.out hb)
          replace R26 := hide (OwnC.keep R26.out hb)
          replace HB := hide (HB.out.trans (hb.mono HB.out.size))
          obtain ⟨A27, c27, rfl, _⟩ := ho.row
          have R27 := hide ho
          clear ho hb
          go_wp2_with fail
          refine (ownL_any gb bb fb2 W27 Hb.out (by have := HL3.out; omega)).mono ?_
          rintro e W28 ⟨v28, rfl, ho, hb⟩
          replace ho := ho.low HB.out.size
          replace Ha := hide (Ha.out.keep hb)
          replace Hb := hide (Hb.out.keep hb)
          replace R7 := hide (OwnC.keep R7.out hb)
          replace R21 := hide (OwnC.keep R21.out hb)
          replace R24 := hide (OwnC.keep R24.out hb)
          replace R25 := hide (OwnC.keep R25.out hb)
          replace R26 := hide (OwnC.keep R26.out hb)
          replace R27 := hide (OwnC.keep R27.out hb)
          replace HB := hide (HB.out.trans (hb.mono HB.out.size))
          obtain ⟨A28, c28, rfl, _⟩ := ho.row
          have R28 := hide ho
          clear ho hb
          go_wp2_with fail
          refine (R.join_any A27 _ c27 (outC fa2) A28 _ c28 (outC fb2) W28 R27.out.rowAt.2.1 R27.out.rowAt.2.2 R28.out.rowAt.2.1 R28.out.rowAt.2.2 rfl rfl (by have := HL2.out; omega) (by have := HL3.out; omega)).mono ?_
          rintro e W29 ⟨v29, rfl, ho, hb⟩
          replace ho := ho.low HB.out.size
          replace Ha := hide (Ha.out.keep hb)
          replace Hb := hide (Hb.out.keep hb)
          replace R7 := hide (OwnC.keep R7.out hb)
          replace R21 := hide (OwnC.keep R21.out hb)
          replace R24 := hide (OwnC.keep R24.out hb)
          replace R25 := hide (OwnC.keep R25.out hb)
          replace R26 := hide (OwnC.keep R26.out hb)
          replace R27 := hide (OwnC.keep R27.out hb)
          replace R28 := hide (OwnC.keep R28.out hb)
          replace HB := hide (HB.out.trans (hb.mono HB.out.size))
          rw [HJN.out] at ho
          obtain ⟨A29, c29, rfl, _⟩ := ho.row
          have R29 := hide ho
          clear ho hb
          go_wp2_with fail
          refine (R.equalC_any A29 A7 _ _ c29 c7 (outC AL) (outC AL) W29 R29.out.rowAt.2.1 R7.out.rowAt.2.1 rfl rfl (by have := HAL.out; omega) (by have := HAL.out; omega)).mono ?_
          rintro e W30 ⟨rfl, hb⟩
          rw [decide_eq_true rfl]
          replace Ha := hide (Ha.out.keep hb)
          replace Hb := hide (Hb.out.keep hb)
          replace R7 := hide (OwnC.keep R7.out hb)
          replace R21 := hide (OwnC.keep R21.out hb)
          replace R24 := hide (OwnC.keep R24.out hb)
          replace R25 := hide (OwnC.keep R25.out hb)
          replace R26 := hide (OwnC.keep R26.out hb)
          replace R27 := hide (OwnC.keep R27.out hb)
          replace R28 := hide (OwnC.keep R28.out hb)
          replace R29 := hide (OwnC.keep R29.out hb)
          replace HB := hide (HB.out.trans (hb.mono HB.out.size))
          clear hb
          go_wp2_with fail
          refine (hasL_any gb bb fb2 A21 _ c21 P W30 Hb.out R21.out.rowAt.2.1 rfl (by have := HPL.out; have := HLa.out; omega)).mono ?_
          rintro e W31 ⟨rfl, hb⟩
          rw [HAD.out]
          replace Ha := hide (Ha.out.keep hb)
          replace Hb := hide (Hb.out.keep hb)
          replace R7 := hide (OwnC.keep R7.out hb)
          replace R21 := hide (OwnC.keep R21.out hb)
          replace R24 := hide (OwnC.keep R24.out hb)
          replace R25 := hide (OwnC.keep R25.out hb)
          replace R26 := hide (OwnC.keep R26.out hb)
          replace R27 := hide (OwnC.keep R27.out hb)
          replace R28 := hide (OwnC.keep R28.out hb)
          replace R29 := hide (OwnC.keep R29.out hb)
          replace HB := hide (HB.out.trans (hb.mono HB.out.size))
          clear hb
          go_wp2_with fail
          go_roundw
          case rel => exact ⟨q + 1, fa2, fb2, by omega, by go_num, Ha, Hb, HNB, R7, HB⟩
          case measure => simp [intOf]; omega
        · have hev2 : ¬ wh.tmod 2 = 0 := by simpa using hev
          have HMV := hide (HBO.out.swap.move HAL.out ml hm10)
          have HPL := hide (parts_le fb Hb.out.neat ml)
          have HPN : Hid (NeatR fa) := hide Ha.out.neat
          go_wp2_with fail
          refine (partL_any gb bb fb mA _ mc ml wr Hb.out (HMR.out.keep HB.out) rfl (by omega) (by have := HLb.out; omega)).mono ?_
          rintro e W21 ⟨v21, rfl, ho, hb⟩
          replace ho := ho.low HB.out.size
          replace Ha := hide (Ha.out.keep hb)
          replace Hb := hide (Hb.out.keep hb)
          replace R7 := hide (OwnC.keep R7.out hb)
          replace HB := hide (HB.out.trans (hb.mono HB.out.size))
          obtain ⟨A21, c21, rfl, _⟩ := ho.row
          have R21 := hide ho
          clear ho hb
          have HAD := hide (add_has HPN.out (parts fb (neatC ml)))
          generalize parts fb (neatC ml) = P at *
          go_wp2_with fail
          refine (cutL_any gb bb fb A21 _ c21 P W21 Hb.out R21.out.rowAt.2.1 rfl (by have := HPL.out; have := HLb.out; omega) (by have := HLb.out; omega)).mono ?_
          rintro e W22 ⟨rfl, hl, hc⟩
          have hone := Hb.out.one
          replace Ha := hide (Ha.out.otherL hone hc APab.out)
          replace R7 := hide (OwnC.otherL R7.out hone hc)
          replace R21 := hide (OwnC.otherL R21.out hone hc)
          replace HB := hide (hc.below HB.out HB.out.size LOb.out)
          replace Hb := hide hl
          clear hl hc hone
          go_wp2_with fail
          refine (addL_any ga ba fa A21 _ c21 P W22 Ha.out R21.out.rowAt.2.1 rfl (by have := HPL.out; have := HLb.out; omega) (by have := HLa.out; omega)).mono ?_
          rintro e W23 ⟨rfl, hl, hc⟩
          have hone := Ha.out.one
          replace Hb := hide (Hb.out.otherL hone hc APba.out)
          replace R7 := hide (OwnC.otherL R7.out hone hc)
          replace R21 := hide (OwnC.otherL R21.out hone hc)
          replace HB := hide (hc.below HB.out HB.out.size LOa.out)
          replace Ha := hide hl
          clear hl hc hone
          have HNB : Hid (Both AL (8 + 50 * (q + 1)) (adds fa (neatC P)) (cuts fb (neatC P))) := hide (by have h := HMV.out.swap; rw [show 8 + 50 * (q + 1) = 8 + 50 * q + 50 by omega]; exact h)
          generalize adds fa (neatC P) = fa2 at *
          generalize cuts fb (neatC P) = fb2 at *
          have HMT := hide HNB.out.two.meet
          have HJN := hide (HNB.out.two.join HAN.out)
          have HL2 := hide HNB.out.lf
          have HL3 := hide HNB.out.lg
          clear HMV
          go_wp2_with fail
          refine (ownL_any ga ba fa2 W23 Ha.out (by have := HL2.out; omega)).mono ?_
          rintro e W24 ⟨v24, rfl, ho, hb⟩
          replace ho := ho.low HB.out.size
          replace Ha := hide (Ha.out.keep hb)
          replace Hb := hide (Hb.out.keep hb)
          replace R7 := hide (OwnC.keep R7.out hb)
          replace R21 := hide (OwnC.keep R21.out hb)
          replace HB := hide (HB.out.trans (hb.mono HB.out.size))
          obtain ⟨A24, c24, rfl, _⟩ := ho.row
          have R24 := hide ho
          clear ho hb
          go_wp2_with fail
          refine (ownL_any gb bb fb2 W24 Hb.out (by have := HL3.out; omega)).mono ?_
          rintro e W25 ⟨v25, rfl, ho, hb⟩
          replace ho := ho.low HB.out.size
          replace Ha := hide (Ha.out.keep hb)
          replace Hb := hide (Hb.out.keep hb)
          replace R7 := hide (OwnC.keep R7.out hb)
          replace R21 := hide (OwnC.keep R21.out hb)
          replace R24 := hide (OwnC.keep R24.out hb)
          replace HB := hide (HB.out.trans (hb.mono HB.out.size))
          obtain ⟨A25, c25, rfl, _⟩ := ho.row
          have R25 := hide ho
          clear ho hb
          go_wp2_with fail
          refine (R.Meet_any A24 A25 _ _ c24 c25 (outC fa2) (outC fb2) W25 R24.out.rowAt.2.1 R25.out.rowAt.2.1 rfl rfl (by have := HL2.out; omega) (by have := HL3.out; omega)).mono ?_
          rintro e W26 ⟨v26, rfl, ho, hb⟩
          replace ho := ho.low HB.out.size
          replace Ha := hide (Ha.out.keep hb)
          replace Hb := hide (Hb.out.keep hb)
          replace R7 := hide (OwnC.keep R7.out hb)
          replace R21 := hide (OwnC.keep R21.out hb)
          replace R24 := hide (OwnC.keep R24.out hb)
          replace R25 := hide (OwnC.keep R25.out hb)
          replace HB := hide (HB.out.trans (hb.mono HB.out.size))
          rw [HMT.out] at ho
          obtain ⟨A26, c26, rfl, _⟩ := ho.row
          have R26 := hide ho
          clear ho hb
          go_wp2_with fail
          refine (ownL_any ga ba fa2 W26 Ha.out (by have := HL2.out; omega)).mono ?_
          rintro e W27 ⟨v27, rfl, ho, hb⟩
          replace ho := ho.low HB.out.size
          replace Ha := hide (Ha.out.keep hb)
          replace Hb := hide (Hb.out.keep hb)
          replace R7 := hide (OwnC.keep R7.out hb)
          replace R21 := hide (OwnC.keep R21.out hb)
          replace R24 := hide (OwnC.keep R24.out hb)
          replace R25 := hide (OwnC.keep R25.out hb)
          replace R26 := hide (OwnC.keep R26.out hb)
          replace HB := hide (HB.out.trans (hb.mono HB.out.size))
          obtain ⟨A27, c27, rfl, _⟩ := ho.row
          have R27 := hide ho
          clear ho hb
          go_wp2_with fail
          refine (ownL_any gb bb fb2 W27 Hb.out (by have := HL3.out; omega)).mono ?_
          rintro e W28 ⟨v28, rfl, ho, hb⟩
          replace ho := ho.low HB.out.size
          replace Ha := hide (Ha.out.keep hb)
          replace Hb := hide (Hb.out.keep hb)
          replace R7 := hide (OwnC.keep R7.out hb)
          replace R21 := hide (OwnC.keep R21.out hb)
          replace R24 := hide (OwnC.keep R24.out hb)
          replace R25 := hide (OwnC.keep R25.out hb)
          replace R26 := hide (OwnC.keep R26.out hb)
          replace R27 := hide (OwnC.keep R27.out hb)
          replace HB := hide (HB.out.trans (hb.mono HB.out.size))
          obtain ⟨A28, c28, rfl, _⟩ := ho.row
          have R28 := hide ho
          clear ho hb
          go_wp2_with fail
          refine (R.join_any A27 _ c27 (outC fa2) A28 _ c28 (outC fb2) W28 R27.out.rowAt.2.1 R27.out.rowAt.2.2 R28.out.rowAt.2.1 R28.out.rowAt.2.2 rfl rfl (by have := HL2.out; omega) (by have := HL3.out; omega)).mono ?_
          rintro e W29 ⟨v29, rfl, ho, hb⟩
          replace ho := ho.low HB.out.size
          replace Ha := hide (Ha.out.keep hb)
          replace Hb := hide (Hb.out.keep hb)
          replace R7 := hide (OwnC.keep R7.out hb)
          replace R21 := hide (OwnC.keep R21.out hb)
          replace R24 := hide (OwnC.keep R24.out hb)
          replace R25 := hide (OwnC.keep R25.out hb)
          replace R26 := hide (OwnC.keep R26.out hb)
          replace R27 := hide (OwnC.keep R27.out hb)
          replace R28 := hide (OwnC.keep R28.out hb)
          replace HB := hide (HB.out.trans (hb.mono HB.out.size))
          rw [HJN.out] at ho
          obtain ⟨A29, c29, rfl, _⟩ := ho.row
          have R29 := hide ho
          clear ho hb
          go_wp2_with fail
          refine (R.equalC_any A29 A7 _ _ c29 c7 (outC AL) (outC AL) W29 R29.out.rowAt.2.1 R7.out.rowAt.2.1 rfl rfl (by have := HAL.out; omega) (by have := HAL.out; omega)).mono ?_
          rintro e W30 ⟨rfl, hb⟩
          rw [decide_eq_true rfl]
          replace Ha := hide (Ha.out.keep hb)
          replace Hb := hide (Hb.out.keep hb)
          replace R7 := hide (OwnC.keep R7.out hb)
          replace R21 := hide (OwnC.keep R21.out hb)
          replace R24 := hide (OwnC.keep R24.out hb)
          replace R25 := hide (OwnC.keep R25.out hb)
          replace R26 := hide (OwnC.keep R26.out hb)
          replace R27 := hide (OwnC.keep R27.out hb)
          replace R28 := hide (OwnC.keep R28.out hb)
          replace R29 := hide (OwnC.keep R29.out hb)
          replace HB := hide (HB.out.trans (hb.mono HB.out.size))
          clear hb
          go_wp2_with fail
          refine (hasL_any ga ba fa2 A21 _ c21 P W30 Ha.out R21.out.rowAt.2.1 rfl (by have := HPL.out; have := HLb.out; omega)).mono ?_
          rintro e W31 ⟨rfl, hb⟩
          rw [HAD.out]
          replace Ha := hide (Ha.out.keep hb)
          replace Hb := hide (Hb.out.keep hb)
          replace R7 := hide (OwnC.keep R7.out hb)
          replace R21 := hide (OwnC.keep R21.out hb)
          replace R24 := hide (OwnC.keep R24.out hb)
          replace R25 := hide (OwnC.keep R25.out hb)
          replace R26 := hide (OwnC.keep R26.out hb)
          replace R27 := hide (OwnC.keep R27.out hb)
          replace R28 := hide (OwnC.keep R28.out hb)
          replace R29 := hide (OwnC.keep R29.out hb)
          replace HB := hide (HB.out.trans (hb.mono HB.out.size))
          clear hb
          go_wp2_with fail
          go_roundw
          case rel => exact ⟨q + 1, fa2, fb2, by omega, by go_num, Ha, Hb, HNB, R7, HB⟩
          case measure => simp [intOf]; omega
      · obtain rfl : q = ts.length := by omega
        go_wp2_with fail
        go_ret
        exact ⟨rfl, HB.out⟩
end Go.Proofs.Ytphojcnehgdbmaa.S2

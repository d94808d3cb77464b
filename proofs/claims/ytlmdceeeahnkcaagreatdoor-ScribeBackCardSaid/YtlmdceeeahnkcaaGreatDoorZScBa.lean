/- ScribeBack. Written by recipes/sc10.py. -/
import Derived.Test.YtlmdceeeahnkcaaGreatDoorZQ13
namespace Go.Proofs.YtlmdceeeahnkcaaGreatDoor
open Go.RowKit Rul Rt Go.Sort Sc De Cl

theorem line_eq {a b : D} (ha : isD a = true) (hb : isD b = true) (c : Bool) (h : sameD a b = c) : (lineE a == lineE b) = c := by
  rw [tx_dec, ← h]
  by_cases e : a = b
  · subst e; rw [sameD_self, decide_eq_true rfl]
  · rw [sameD_no e, decide_eq_false fun g => e (line_inj ha hb g)]
theorem no_ends (d : D) (k : Nat) (h : k < (str (lineE d)).size) : ((((str (lineE d))[k]'h).toNat : Nat) : Int) ≠ 10 ∧ ((((str (lineE d))[k]'h).toNat : Nat) : Int) ≠ 13 := by
  have hl : k < (lineE d).length := by rw [str_size] at h; exact h
  rw [str_at _ k h hl]
  have hm := line_ends d _ (List.getElem_mem hl)
  constructor
  · intro e; exact hm.1 (UInt8.toNat_inj.1 (by show _ = 10; omega))
  · intro e; exact hm.2 (UInt8.toNat_inj.1 (by show _ = 13; omega))
set_option maxRecDepth 100000 in
set_option maxHeartbeats 32000000 in
theorem bk15_any (a : D) (m : DM) (b : D) (n : DM) (w : World) (he : Env w) (h : DO w a m) (k : DO w b n) :
    Calls Tryz.prog 3 #[.agg (dC a m).toArray, .agg (dC b n).toArray] w (Ans w (.bool true)) := by
  have HB := hide (dtwo_below w (dC a m) (dC b n) 34 34)
  have R1 := hide (dtwo_fst w (dC a m) (dC b n) 34 34)
  have R2 := hide (dtwo_snd w (dC a m) (dC b n) 34 34)
  have HE := hide (he.keep HB.out)
  have HK := hide (fun w he => known_any w he)
  have HO1 := hide (h.keep HB.out)
  have HO2 := hide (k.keep HB.out)
  clear he h k
  cases ha : fewD a with
  | false =>
    have HF := hide (fun w => fewD_c a m false w ha)
    clear ha
    go_enter Tryz.func3, Tryz.ntmps3
    go_wp2_with fail
    refine (HK.out _ HE.out).mono ?_
    rintro q w1 ⟨rfl, hb⟩
    replace HB := hide (andthen HB.out hb)
    replace R1 := hide (range_keep R1.out hb)
    replace R2 := hide (range_keep R2.out hb)
    replace HE := hide (HE.out.keep hb)
    clear hb
    go_wp2_with (first | refine load_deed rfl _ rfl _ _ rfl _ R1.out rfl ?_ | refine load_deed rfl _ rfl _ _ rfl _ R2.out rfl ?_)
    refine (HF.out _).mono ?_
    rintro q w2 ⟨rfl, hb⟩
    replace HB := hide (andthen HB.out hb)
    replace R1 := hide (range_keep R1.out hb)
    replace R2 := hide (range_keep R2.out hb)
    replace HE := hide (HE.out.keep hb)
    clear hb
    go_wp2_with fail
    go_ret
    exact ⟨rfl, HB.out⟩
  | true =>
    have HF := hide (fun w => fewD_c a m true w ha)
    have HA := hide (HO1.out.few ha)
    clear ha HO1
    cases hb : fewD b with
    | false =>
      have HG := hide (fun w => fewD_c b n false w hb)
      clear hb
      go_enter Tryz.func3, Tryz.ntmps3
      go_wp2_with fail
      refine (HK.out _ HE.out).mono ?_
      rintro q w1 ⟨rfl, hb⟩
      replace HB := hide (andthen HB.out hb)
      replace R1 := hide (range_keep R1.out hb)
      replace R2 := hide (range_keep R2.out hb)
      replace HE := hide (HE.out.keep hb)
      clear hb
      go_wp2_with (first | refine load_deed rfl _ rfl _ _ rfl _ R1.out rfl ?_ | refine load_deed rfl _ rfl _ _ rfl _ R2.out rfl ?_)
      refine (HF.out _).mono ?_
      rintro q w2 ⟨rfl, hb⟩
      replace HB := hide (andthen HB.out hb)
      replace R1 := hide (range_keep R1.out hb)
      replace R2 := hide (range_keep R2.out hb)
      replace HE := hide (HE.out.keep hb)
      clear hb
      go_wp2_with (first | refine load_deed rfl _ rfl _ _ rfl _ R1.out rfl ?_ | refine load_deed rfl _ rfl _ _ rfl _ R2.out rfl ?_)
      refine (HG.out _).mono ?_
      rintro q w3 ⟨rfl, hb⟩
      replace HB := hide (andthen HB.out hb)
      replace R1 := hide (range_keep R1.out hb)
      replace R2 := hide (range_keep R2.out hb)
      replace HE := hide (HE.out.keep hb)
      clear hb
      go_wp2_with fail
      go_ret
      exact ⟨rfl, HB.out⟩
    | true =>
      have HG := hide (fun w => fewD_c b n true w hb)
      have HD := hide (HO2.out.few hb)
      clear hb HO2
      have HL1 := hide (fun w he h => line_any a m w he h)
      have HL2 := hide (fun w he h => line_any b n w he h)
      cases da : isD a with
      | false =>
        have HI := hide (fun w h => rdIs_c a m false w h da)
        rw [lineV_no da] at HL1
        have q1 := str_tl ([] : Tx)
        clear da
        generalize hv : lineV b = vb at *
        have hvb : ∃ s e, vb = .tuple #[.string (str s), .int .i64 e] := by
          rw [← hv]; unfold lineV; split
          · exact ⟨_, _, rfl⟩
          · exact ⟨_, _, rfl⟩
        obtain ⟨s, x, rfl⟩ := hvb
        clear hv
        go_enter Tryz.func3, Tryz.ntmps3
        go_wp2_with fail
        refine (HK.out _ HE.out).mono ?_
        rintro q w1 ⟨rfl, hb⟩
        replace HB := hide (andthen HB.out hb)
        replace R1 := hide (range_keep R1.out hb)
        replace R2 := hide (range_keep R2.out hb)
        replace HE := hide (HE.out.keep hb)
        replace HA := hide (HA.out.keep hb)
        replace HD := hide (HD.out.keep hb)
        clear hb
        go_wp2_with (first | refine load_deed rfl _ rfl _ _ rfl _ R1.out rfl ?_ | refine load_deed rfl _ rfl _ _ rfl _ R2.out rfl ?_)
        refine (HF.out _).mono ?_
        rintro q w2 ⟨rfl, hb⟩
        replace HB := hide (andthen HB.out hb)
        replace R1 := hide (range_keep R1.out hb)
        replace R2 := hide (range_keep R2.out hb)
        replace HE := hide (HE.out.keep hb)
        replace HA := hide (HA.out.keep hb)
        replace HD := hide (HD.out.keep hb)
        clear hb
        go_wp2_with (first | refine load_deed rfl _ rfl _ _ rfl _ R1.out rfl ?_ | refine load_deed rfl _ rfl _ _ rfl _ R2.out rfl ?_)
        refine (HG.out _).mono ?_
        rintro q w3 ⟨rfl, hb⟩
        replace HB := hide (andthen HB.out hb)
        replace R1 := hide (range_keep R1.out hb)
        replace R2 := hide (range_keep R2.out hb)
        replace HE := hide (HE.out.keep hb)
        replace HA := hide (HA.out.keep hb)
        replace HD := hide (HD.out.keep hb)
        clear hb
        go_wp2_with (first | refine load_deed rfl _ rfl _ _ rfl _ R1.out rfl ?_ | refine load_deed rfl _ rfl _ _ rfl _ R2.out rfl ?_)
        refine (HL1.out _ HE.out HA.out).mono ?_
        rintro q w4 ⟨rfl, hb⟩
        replace HB := hide (andthen HB.out hb)
        replace R1 := hide (range_keep R1.out hb)
        replace R2 := hide (range_keep R2.out hb)
        replace HE := hide (HE.out.keep hb)
        replace HA := hide (HA.out.keep hb)
        replace HD := hide (HD.out.keep hb)
        clear hb
        go_wp2_with (first | refine load_deed rfl _ rfl _ _ rfl _ R1.out rfl ?_ | refine load_deed rfl _ rfl _ _ rfl _ R2.out rfl ?_)
        refine (HL2.out _ HE.out HD.out).mono ?_
        rintro q w5 ⟨rfl, hb⟩
        replace HB := hide (andthen HB.out hb)
        replace R1 := hide (range_keep R1.out hb)
        replace R2 := hide (range_keep R2.out hb)
        replace HE := hide (HE.out.keep hb)
        replace HA := hide (HA.out.keep hb)
        replace HD := hide (HD.out.keep hb)
        clear hb
        go_wp2_with (first | refine load_deed rfl _ rfl _ _ rfl _ R1.out rfl ?_ | refine load_deed rfl _ rfl _ _ rfl _ R2.out rfl ?_)
        refine (HI.out _ HA.out).mono ?_
        rintro q w6 ⟨rfl, hb⟩
        replace HB := hide (andthen HB.out hb)
        replace R1 := hide (range_keep R1.out hb)
        replace R2 := hide (range_keep R2.out hb)
        replace HE := hide (HE.out.keep hb)
        replace HA := hide (HA.out.keep hb)
        replace HD := hide (HD.out.keep hb)
        clear hb
        go_wp2_with fail
        go_ret
        exact ⟨rfl, HB.out⟩
      | true =>
        have HI := hide (fun w h => rdIs_c a m true w h da)
        have HR := hide (fun w he => Read_any (lineE a) w he (by have := (line_len da).2; omega))
        rw [read_line da] at HR
        rw [lineV_yes da] at HL1
        have HSA := hide (fun w p h1 h2 => rsameD_c a a p m true w h1 h2 (sameD_self _))
        have q1 := str_tl (lineE a)
        have q2 : (lineE a == lineE a) = true := by simp
        have hl := line_len da
        have hz4 : (4 : Int) ≤ ((str (lineE a)).size : Int) := by rw [str_size]; omega
        have hz8 : ((str (lineE a)).size : Int) ≤ 8000 := by rw [str_size]; omega
        have HNE := hide (fun j hj => no_ends a j hj)
        cases db : isD b with
        | false =>
          rw [lineV_no db] at HL2
          clear da db hl
          generalize lineE a = L at *
          go_enter Tryz.func3, Tryz.ntmps3
          go_wp2_with fail
          refine (HK.out _ HE.out).mono ?_
          rintro q w1 ⟨rfl, hb⟩
          replace HB := hide (andthen HB.out hb)
          replace R1 := hide (range_keep R1.out hb)
          replace R2 := hide (range_keep R2.out hb)
          replace HE := hide (HE.out.keep hb)
          replace HA := hide (HA.out.keep hb)
          replace HD := hide (HD.out.keep hb)
          clear hb
          go_wp2_with (first | refine load_deed rfl _ rfl _ _ rfl _ R1.out rfl ?_ | refine load_deed rfl _ rfl _ _ rfl _ R2.out rfl ?_)
          refine (HF.out _).mono ?_
          rintro q w2 ⟨rfl, hb⟩
          replace HB := hide (andthen HB.out hb)
          replace R1 := hide (range_keep R1.out hb)
          replace R2 := hide (range_keep R2.out hb)
          replace HE := hide (HE.out.keep hb)
          replace HA := hide (HA.out.keep hb)
          replace HD := hide (HD.out.keep hb)
          clear hb
          go_wp2_with (first | refine load_deed rfl _ rfl _ _ rfl _ R1.out rfl ?_ | refine load_deed rfl _ rfl _ _ rfl _ R2.out rfl ?_)
          refine (HG.out _).mono ?_
          rintro q w3 ⟨rfl, hb⟩
          replace HB := hide (andthen HB.out hb)
          replace R1 := hide (range_keep R1.out hb)
          replace R2 := hide (range_keep R2.out hb)
          replace HE := hide (HE.out.keep hb)
          replace HA := hide (HA.out.keep hb)
          replace HD := hide (HD.out.keep hb)
          clear hb
          go_wp2_with (first | refine load_deed rfl _ rfl _ _ rfl _ R1.out rfl ?_ | refine load_deed rfl _ rfl _ _ rfl _ R2.out rfl ?_)
          refine (HL1.out _ HE.out HA.out).mono ?_
          rintro q w4 ⟨rfl, hb⟩
          replace HB := hide (andthen HB.out hb)
          replace R1 := hide (range_keep R1.out hb)
          replace R2 := hide (range_keep R2.out hb)
          replace HE := hide (HE.out.keep hb)
          replace HA := hide (HA.out.keep hb)
          replace HD := hide (HD.out.keep hb)
          clear hb
          go_wp2_with (first | refine load_deed rfl _ rfl _ _ rfl _ R1.out rfl ?_ | refine load_deed rfl _ rfl _ _ rfl _ R2.out rfl ?_)
          refine (HL2.out _ HE.out HD.out).mono ?_
          rintro q w5 ⟨rfl, hb⟩
          replace HB := hide (andthen HB.out hb)
          replace R1 := hide (range_keep R1.out hb)
          replace R2 := hide (range_keep R2.out hb)
          replace HE := hide (HE.out.keep hb)
          replace HA := hide (HA.out.keep hb)
          replace HD := hide (HD.out.keep hb)
          clear hb
          go_wp2_with (first | refine load_deed rfl _ rfl _ _ rfl _ R1.out rfl ?_ | refine load_deed rfl _ rfl _ _ rfl _ R2.out rfl ?_)
          refine (HI.out _ HA.out).mono ?_
          rintro q w6 ⟨rfl, hb⟩
          replace HB := hide (andthen HB.out hb)
          replace R1 := hide (range_keep R1.out hb)
          replace R2 := hide (range_keep R2.out hb)
          replace HE := hide (HE.out.keep hb)
          replace HA := hide (HA.out.keep hb)
          replace HD := hide (HD.out.keep hb)
          clear hb
          go_wp2_with fail
          go_loopw [9] (fun i wr => ∃ j : Nat, j ≤ (str L).size ∧ i = .int .i64 j ∧ Below w6.heap.size w6 wr) (fun i _ => (str L).size - (intOf i).toNat)
          case atStart => exact ⟨0, Nat.zero_le _, rfl, start _⟩
          case round =>
            obtain ⟨j, hj, rfl, hb⟩ := hrel
            by_cases hlt : j < (str L).size
            · have hlt1 : (j : Int) < ((str L).size : Int) := by omega
              have hj0 : (0 : Int) ≤ (j : Int) := by omega
              have hn := HNE.out j hlt
              obtain ⟨c, hc⟩ : ∃ c, (str L)[j]'hlt = c := ⟨_, rfl⟩
              rw [hc] at hn
              have e1 : (((c.toNat : Nat) : Int) == 10) = false := by rw [beq_eq_false_iff_ne]; exact hn.1
              have e2 : (((c.toNat : Nat) : Int) == 13) = false := by rw [beq_eq_false_iff_ne]; exact hn.2
              clear hn
              go_wp2_with fail
              go_roundw
              case rel => exact ⟨j + 1, by omega, by go_num, hb⟩
              case measure => simp [intOf]; omega
            · obtain rfl : j = (str L).size := by omega
              replace HB := hide (andthen HB.out hb)
              replace R1 := hide (range_keep R1.out hb)
              replace R2 := hide (range_keep R2.out hb)
              replace HE := hide (HE.out.keep hb)
              replace HA := hide (HA.out.keep hb)
              replace HD := hide (HD.out.keep hb)
              clear hb
              go_wp2_with fail
              refine (HR.out _ HE.out).mono ?_
              rintro q w7 ⟨hb, p, rfl, hd⟩
              have R3 := hide (range_new w7 (dC a p) 34)
              have hb8 := more (start w7) (.cells (dC a p).toArray 34)
              have HX := hide (hd.keep hb8)
              replace hb := andthen hb hb8
              clear hd hb8
              replace HB := hide (andthen HB.out hb)
              replace R1 := hide (range_keep R1.out hb)
              replace R2 := hide (range_keep R2.out hb)
              replace HE := hide (HE.out.keep hb)
              replace HA := hide (HA.out.keep hb)
              replace HD := hide (HD.out.keep hb)
              clear hb
              go_wp2_with (first | refine load_deed rfl _ rfl _ _ rfl _ R1.out rfl ?_ | refine load_deed rfl _ rfl _ _ rfl _ R2.out rfl ?_ | refine store_new rfl _ _ _ rfl w7 _ (dC a p).toArray rfl rfl rfl (by kernel_rfl) (by kernel_rfl) (by kernel_rfl) ?_)
              refine (HL1.out _ HE.out HA.out).mono ?_
              rintro q w9 ⟨rfl, hb⟩
              replace HB := hide (andthen HB.out hb)
              replace R1 := hide (range_keep R1.out hb)
              replace R2 := hide (range_keep R2.out hb)
              replace HE := hide (HE.out.keep hb)
              replace HA := hide (HA.out.keep hb)
              replace HD := hide (HD.out.keep hb)
              replace R3 := hide (range_keep R3.out hb)
              replace HX := hide (HX.out.keep hb)
              clear hb
              go_wp2_with (first | refine load_deed rfl _ rfl _ _ rfl _ R1.out rfl ?_ | refine load_deed rfl _ rfl _ _ rfl _ R2.out rfl ?_ | refine load_deed rfl _ rfl _ _ rfl _ R3.out rfl ?_)
              refine (HSA.out _ _ HX.out HA.out).mono ?_
              rintro q w10 ⟨rfl, hb⟩
              replace HB := hide (andthen HB.out hb)
              replace R1 := hide (range_keep R1.out hb)
              replace R2 := hide (range_keep R2.out hb)
              replace HE := hide (HE.out.keep hb)
              replace HA := hide (HA.out.keep hb)
              replace HD := hide (HD.out.keep hb)
              clear hb
              go_wp2_with fail
              go_ret
              exact ⟨rfl, HB.out⟩
        | true =>
          rw [lineV_yes db] at HL2
          have q3 := str_tl (lineE b)
          have HSB := hide (fun w h1 h2 => rsameD_c a b m n (sameD a b) w h1 h2 rfl)
          have q4 := line_eq da db (sameD a b) rfl
          clear da db hl
          generalize sameD a b = c at *
          generalize lineE a = L at *
          generalize lineE b = M at *
          go_enter Tryz.func3, Tryz.ntmps3
          go_wp2_with fail
          refine (HK.out _ HE.out).mono ?_
          rintro q w1 ⟨rfl, hb⟩
          replace HB := hide (andthen HB.out hb)
          replace R1 := hide (range_keep R1.out hb)
          replace R2 := hide (range_keep R2.out hb)
          replace HE := hide (HE.out.keep hb)
          replace HA := hide (HA.out.keep hb)
          replace HD := hide (HD.out.keep hb)
          clear hb
          go_wp2_with (first | refine load_deed rfl _ rfl _ _ rfl _ R1.out rfl ?_ | refine load_deed rfl _ rfl _ _ rfl _ R2.out rfl ?_)
          refine (HF.out _).mono ?_
          rintro q w2 ⟨rfl, hb⟩
          replace HB := hide (andthen HB.out hb)
          replace R1 := hide (range_keep R1.out hb)
          replace R2 := hide (range_keep R2.out hb)
          replace HE := hide (HE.out.keep hb)
          replace HA := hide (HA.out.keep hb)
          replace HD := hide (HD.out.keep hb)
          clear hb
          go_wp2_with (first | refine load_deed rfl _ rfl _ _ rfl _ R1.out rfl ?_ | refine load_deed rfl _ rfl _ _ rfl _ R2.out rfl ?_)
          refine (HG.out _).mono ?_
          rintro q w3 ⟨rfl, hb⟩
          replace HB := hide (andthen HB.out hb)
          replace R1 := hide (range_keep R1.out hb)
          replace R2 := hide (range_keep R2.out hb)
          replace HE := hide (HE.out.keep hb)
          replace HA := hide (HA.out.keep hb)
          replace HD := hide (HD.out.keep hb)
          clear hb
          go_wp2_with (first | refine load_deed rfl _ rfl _ _ rfl _ R1.out rfl ?_ | refine load_deed rfl _ rfl _ _ rfl _ R2.out rfl ?_)
          refine (HL1.out _ HE.out HA.out).mono ?_
          rintro q w4 ⟨rfl, hb⟩
          replace HB := hide (andthen HB.out hb)
          replace R1 := hide (range_keep R1.out hb)
          replace R2 := hide (range_keep R2.out hb)
          replace HE := hide (HE.out.keep hb)
          replace HA := hide (HA.out.keep hb)
          replace HD := hide (HD.out.keep hb)
          clear hb
          go_wp2_with (first | refine load_deed rfl _ rfl _ _ rfl _ R1.out rfl ?_ | refine load_deed rfl _ rfl _ _ rfl _ R2.out rfl ?_)
          refine (HL2.out _ HE.out HD.out).mono ?_
          rintro q w5 ⟨rfl, hb⟩
          replace HB := hide (andthen HB.out hb)
          replace R1 := hide (range_keep R1.out hb)
          replace R2 := hide (range_keep R2.out hb)
          replace HE := hide (HE.out.keep hb)
          replace HA := hide (HA.out.keep hb)
          replace HD := hide (HD.out.keep hb)
          clear hb
          go_wp2_with (first | refine load_deed rfl _ rfl _ _ rfl _ R1.out rfl ?_ | refine load_deed rfl _ rfl _ _ rfl _ R2.out rfl ?_)
          refine (HI.out _ HA.out).mono ?_
          rintro q w6 ⟨rfl, hb⟩
          replace HB := hide (andthen HB.out hb)
          replace R1 := hide (range_keep R1.out hb)
          replace R2 := hide (range_keep R2.out hb)
          replace HE := hide (HE.out.keep hb)
          replace HA := hide (HA.out.keep hb)
          replace HD := hide (HD.out.keep hb)
          clear hb
          go_wp2_with fail
          go_loopw [9] (fun i wr => ∃ j : Nat, j ≤ (str L).size ∧ i = .int .i64 j ∧ Below w6.heap.size w6 wr) (fun i _ => (str L).size - (intOf i).toNat)
          case atStart => exact ⟨0, Nat.zero_le _, rfl, start _⟩
          case round =>
            obtain ⟨j, hj, rfl, hb⟩ := hrel
            by_cases hlt : j < (str L).size
            · have hlt1 : (j : Int) < ((str L).size : Int) := by omega
              have hj0 : (0 : Int) ≤ (j : Int) := by omega
              have hn := HNE.out j hlt
              obtain ⟨c, hc⟩ : ∃ c, (str L)[j]'hlt = c := ⟨_, rfl⟩
              rw [hc] at hn
              have e1 : (((c.toNat : Nat) : Int) == 10) = false := by rw [beq_eq_false_iff_ne]; exact hn.1
              have e2 : (((c.toNat : Nat) : Int) == 13) = false := by rw [beq_eq_false_iff_ne]; exact hn.2
              clear hn
              go_wp2_with fail
              go_roundw
              case rel => exact ⟨j + 1, by omega, by go_num, hb⟩
              case measure => simp [intOf]; omega
            · obtain rfl : j = (str L).size := by omega
              replace HB := hide (andthen HB.out hb)
              replace R1 := hide (range_keep R1.out hb)
              replace R2 := hide (range_keep R2.out hb)
              replace HE := hide (HE.out.keep hb)
              replace HA := hide (HA.out.keep hb)
              replace HD := hide (HD.out.keep hb)
              clear hb
              go_wp2_with fail
              refine (HR.out _ HE.out).mono ?_
              rintro q w7 ⟨hb, p, rfl, hd⟩
              have R3 := hide (range_new w7 (dC a p) 34)
              have hb8 := more (start w7) (.cells (dC a p).toArray 34)
              have HX := hide (hd.keep hb8)
              replace hb := andthen hb hb8
              clear hd hb8
              replace HB := hide (andthen HB.out hb)
              replace R1 := hide (range_keep R1.out hb)
              replace R2 := hide (range_keep R2.out hb)
              replace HE := hide (HE.out.keep hb)
              replace HA := hide (HA.out.keep hb)
              replace HD := hide (HD.out.keep hb)
              clear hb
              go_wp2_with (first | refine load_deed rfl _ rfl _ _ rfl _ R1.out rfl ?_ | refine load_deed rfl _ rfl _ _ rfl _ R2.out rfl ?_ | refine store_new rfl _ _ _ rfl w7 _ (dC a p).toArray rfl rfl rfl (by kernel_rfl) (by kernel_rfl) (by kernel_rfl) ?_)
              refine (HL1.out _ HE.out HA.out).mono ?_
              rintro q w9 ⟨rfl, hb⟩
              replace HB := hide (andthen HB.out hb)
              replace R1 := hide (range_keep R1.out hb)
              replace R2 := hide (range_keep R2.out hb)
              replace HE := hide (HE.out.keep hb)
              replace HA := hide (HA.out.keep hb)
              replace HD := hide (HD.out.keep hb)
              replace R3 := hide (range_keep R3.out hb)
              replace HX := hide (HX.out.keep hb)
              clear hb
              go_wp2_with (first | refine load_deed rfl _ rfl _ _ rfl _ R1.out rfl ?_ | refine load_deed rfl _ rfl _ _ rfl _ R2.out rfl ?_ | refine load_deed rfl _ rfl _ _ rfl _ R3.out rfl ?_)
              refine (HSA.out _ _ HX.out HA.out).mono ?_
              rintro q w10 ⟨rfl, hb⟩
              replace HB := hide (andthen HB.out hb)
              replace R1 := hide (range_keep R1.out hb)
              replace R2 := hide (range_keep R2.out hb)
              replace HE := hide (HE.out.keep hb)
              replace HA := hide (HA.out.keep hb)
              replace HD := hide (HD.out.keep hb)
              clear hb
              go_wp2_with (first | refine load_deed rfl _ rfl _ _ rfl _ R1.out rfl ?_ | refine load_deed rfl _ rfl _ _ rfl _ R2.out rfl ?_)
              refine (HSB.out _ HA.out HD.out).mono ?_
              rintro q w11 ⟨rfl, hb⟩
              replace HB := hide (andthen HB.out hb)
              replace R1 := hide (range_keep R1.out hb)
              replace R2 := hide (range_keep R2.out hb)
              replace HE := hide (HE.out.keep hb)
              replace HA := hide (HA.out.keep hb)
              replace HD := hide (HD.out.keep hb)
              clear hb
              cases c
              · go_wp2_with fail
                go_ret
                exact ⟨rfl, HB.out⟩
              · go_wp2_with fail
                go_ret
                exact ⟨rfl, HB.out⟩
end Go.Proofs.YtlmdceeeahnkcaaGreatDoor

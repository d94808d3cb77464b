/- SpansTeeth walked: every second minute, so many, cut one after the other. -/
import Derived.Test.YtkjkegjekfebpaaSnV
import Derived.Test.YtkjkegjekfebpaaSnMathB
namespace Go.Proofs.Ytkjkegjekfebpaa
open Go.RowKit Spn

/-- what a law answers. -/
abbrev Yes (w : World) : Ending → World → Prop := fun e w' => e = .returned (.bool true) ∧ Below w.heap.size w w'
theorem teeth_back (f : Int) (k m : Nat) : teeth f true k (m + 1) = subR (teeth f true k m) (f + 2 * ((k - 1 - m : Nat) : Int) + 1, f + 2 * ((k - 1 - m : Nat) : Int) + 2) := rfl
theorem teeth_on (f : Int) (k m : Nat) : teeth f false k (m + 1) = subR (teeth f false k m) (f + 2 * (m : Int) + 1, f + 2 * (m : Int) + 2) := rfl
set_option maxRecDepth 100000 in
set_option maxHeartbeats 4000000 in
theorem teeth_main (x f : Int) (bk : Bool) (k : Nat) (w : World) (hx0 : 0 ≤ x) (hx1 : x ≤ 255) (hf0 : 0 ≤ f) (hf1 : f ≤ 65535) (hk : x % 200 + 1 = (k : Int)) :
    Calls Try.prog 7 #[.int .u8 x, .int .u16 f, .bool bk] w (Yes w) := by
  have hk1 : 1 ≤ k := by omega
  have hk2 : k ≤ 200 := by omega
  have hfk : f + 2 * (k : Int) ≤ 52596000 := by omega
  have HK := hide hk
  have HTC := hide (teeth_comb f bk k hf0 hfk hk1)
  have HCL := hide (comb_len f k)
  have HCS := hide (comb_sum f hf0 k hfk)
  have HCM : Hid (meetsB (comb f k) (f + 1, f + 2) = false) := hide (comb_meets f k hf0 hfk)
  have HCH : Hid (hasB (comb f k) (f, f + 1) = true) := hide (comb_has f k hf0 hfk hk1)
  have HB := start w
  clear hk hfk
  cases bk
  · go_enter Try.func7, Try.ntmps7
    go_wp2_with fail
    refine (known_any _).mono ?_
    rintro e w1 ⟨rfl, hb⟩
    replace HB := andthen HB hb
    clear hb
    go_wp2_with fail
    rw [HK.out]
    refine (new_any _).mono ?_
    rintro e w2 ⟨g, rfl, hg, hs, hb⟩
    have hg2 : w.heap.size ≤ g := Nat.le_trans HB.size hg
    replace HB := andthen HB hb
    clear hb hg hx0 hx1
    go_wp2_with fail
    refine (s_any _ _ _).mono ?_
    rintro e w3 ⟨rfl, hb⟩
    replace HB := andthen HB hb
    replace hs := hs.keep hb
    clear hb
    go_wp2_with fail
    refine (addSet_any g [] f (f + 2 * (k : Int)) _ hs (by simp)).mono ?_
    rintro e w4 ⟨rfl, hs4, hc⟩
    replace HB := hc.below HB HB.size hg2
    clear hc hs
    have HB4 := hide HB
    have HS4 := hide hs4
    clear HB hs4
    go_wp2_with fail
    go_loopw [9] (fun i wr => ∃ m : Nat, m ≤ k ∧ i = .int .i64 (m : Int) ∧ SetAt wr g (teeth f false k m) ∧ Below w.heap.size w wr) (fun i _ => k - (intOf i).toNat)
    case atStart => exact ⟨0, Nat.zero_le _, rfl, HS4.out, HB4.out⟩
    case round =>
      obtain ⟨m, hm, rfl, hs, HB⟩ := hrel
      have hlen := teeth_len f false k m
      by_cases hlt : m < k
      · have HT : Hid (teeth f false k (m + 1) = subR (teeth f false k m) (f + 2 * (m : Int) + 1, f + 2 * (m : Int) + 2)) := hide (teeth_on f k m)
        have hlen2 := teeth_len f false k (m + 1)
        have HS := hide hs
        have HB1 := hide HB
        clear hs HB
        go_wp2_with fail
        refine (s_any _ _ _).mono ?_
        rintro e w5 ⟨rfl, hb⟩
        have hs5 := HS.out.keep hb
        have hB5 := andthen HB1.out hb
        clear hb
        go_wp2_with fail
        refine (cutSet_any g (teeth f false k m) (f + 2 * (m : Int) + 1) (f + 2 * (m : Int) + 2) _ hs5 (by omega)).mono ?_
        rw [← HT.out]
        rintro e w6 ⟨rfl, hs6, hc⟩
        have hB6 := hc.below hB5 hB5.size hg2
        clear hc hs5 hB5
        go_wp2_with fail
        refine (setAll_any g _ _ hs6 (by omega)).mono ?_
        rintro e w7 ⟨v, rfl, hown, hb⟩
        obtain ⟨A, c, rfl, _⟩ := Own.row hown
        have hs7 := hs6.keep hb
        have hB7 := andthen hB6 hb
        clear hown hb hs6 hB6
        go_wp2_with fail
        refine (deep_is g _ _ hs7).mono ?_
        rintro e w8 ⟨⟨d, rfl, hfl⟩, rfl⟩
        go_wp2_with fail
        refine (log_any _ _ (by omega)).mono ?_
        rintro e w9 ⟨q, rfl, hq1, hq2, rfl⟩
        have hdq := hfl.log (k := q) (by exact_mod_cast hq1)
        have hd1 : ¬ 2 * (q : Int) + 2 < (d : Int) := by omega
        have hd2 : decide (2 * (q : Int) + 2 < (d : Int)) = false := decide_eq_false hd1
        have HS7 := hide hs7
        have HB7 := hide hB7
        clear hq1 hfl hs7 hB7
        go_wp2_with fail
        go_roundw
        case rel => exact ⟨m + 1, by omega, by go_num, HS7.out, HB7.out⟩
        case measure => simp [intOf]; omega
      · obtain rfl : m = k := by omega
        rw [HTC.out] at hs
        have HS := hide hs
        have HB1 := hide HB
        clear hs HB hlen
        go_wp2_with fail
        refine (setAll_any g _ _ HS.out (by rw [HCL.out]; omega)).mono ?_
        rintro e w7 ⟨v, rfl, hown, hb⟩
        obtain ⟨A, c, rfl, _⟩ := Own.row hown
        rw [HCL.out]
        have hs7 := HS.out.keep hb
        have hB7 := andthen HB1.out hb
        clear hown hb
        go_wp2_with fail
        refine (setLong_any g _ _ hs7 (by rw [HCL.out]; omega)).mono ?_
        rw [HCS.out]
        rintro e w8 ⟨rfl, hb⟩
        have hs8 := hs7.keep hb
        have hB8 := andthen hB7 hb
        clear hb
        go_wp2_with fail
        refine (s_any _ _ _).mono ?_
        rintro e w9 ⟨rfl, hb⟩
        have hs9 := hs8.keep hb
        have hB9 := andthen hB8 hb
        clear hb
        go_wp2_with fail
        refine (meets_any g _ (f + 1) (f + 2) _ hs9).mono ?_
        rw [HCM.out]
        rintro e w10 ⟨rfl, hb⟩
        have hs10 := hs9.keep hb
        have hB10 := andthen hB9 hb
        clear hb
        go_wp2_with fail
        refine (s_any _ _ _).mono ?_
        rintro e w11 ⟨rfl, hb⟩
        have hs11 := hs10.keep hb
        have hB11 := andthen hB10 hb
        clear hb
        go_wp2_with fail
        refine (has_any g _ f (f + 1) _ hs11).mono ?_
        rw [HCH.out]
        rintro e w12 ⟨rfl, hb⟩
        have HB12 := hide (andthen hB11 hb)
        clear hb
        go_wp2_with fail
        go_ret
        exact ⟨rfl, HB12.out⟩
  · go_enter Try.func7, Try.ntmps7
    go_wp2_with fail
    refine (known_any _).mono ?_
    rintro e w1 ⟨rfl, hb⟩
    replace HB := andthen HB hb
    clear hb
    go_wp2_with fail
    rw [HK.out]
    refine (new_any _).mono ?_
    rintro e w2 ⟨g, rfl, hg, hs, hb⟩
    have hg2 : w.heap.size ≤ g := Nat.le_trans HB.size hg
    replace HB := andthen HB hb
    clear hb hg hx0 hx1
    go_wp2_with fail
    refine (s_any _ _ _).mono ?_
    rintro e w3 ⟨rfl, hb⟩
    replace HB := andthen HB hb
    replace hs := hs.keep hb
    clear hb
    go_wp2_with fail
    refine (addSet_any g [] f (f + 2 * (k : Int)) _ hs (by simp)).mono ?_
    rintro e w4 ⟨rfl, hs4, hc⟩
    replace HB := hc.below HB HB.size hg2
    clear hc hs
    have HB4 := hide HB
    have HS4 := hide hs4
    clear HB hs4
    go_wp2_with fail
    go_loopw [9] (fun i wr => ∃ m : Nat, m ≤ k ∧ i = .int .i64 (m : Int) ∧ SetAt wr g (teeth f true k m) ∧ Below w.heap.size w wr) (fun i _ => k - (intOf i).toNat)
    case atStart => exact ⟨0, Nat.zero_le _, rfl, HS4.out, HB4.out⟩
    case round =>
      obtain ⟨m, hm, rfl, hs, HB⟩ := hrel
      have hlen := teeth_len f true k m
      by_cases hlt : m < k
      · have HT : Hid (teeth f true k (m + 1) = subR (teeth f true k m) (f + 2 * ((k : Int) - 1 - (m : Int)) + 1, f + 2 * ((k : Int) - 1 - (m : Int)) + 2)) := hide (by rw [teeth_back, show ((k - 1 - m : Nat) : Int) = (k : Int) - 1 - (m : Int) by omega])
        have hlen2 := teeth_len f true k (m + 1)
        have HS := hide hs
        have HB1 := hide HB
        clear hs HB
        go_wp2_with fail
        refine (s_any _ _ _).mono ?_
        rintro e w5 ⟨rfl, hb⟩
        have hs5 := HS.out.keep hb
        have hB5 := andthen HB1.out hb
        clear hb
        go_wp2_with fail
        refine (cutSet_any g (teeth f true k m) (f + 2 * ((k : Int) - 1 - (m : Int)) + 1) (f + 2 * ((k : Int) - 1 - (m : Int)) + 2) _ hs5 (by omega)).mono ?_
        rw [← HT.out]
        rintro e w6 ⟨rfl, hs6, hc⟩
        have hB6 := hc.below hB5 hB5.size hg2
        clear hc hs5 hB5
        go_wp2_with fail
        refine (setAll_any g _ _ hs6 (by omega)).mono ?_
        rintro e w7 ⟨v, rfl, hown, hb⟩
        obtain ⟨A, c, rfl, _⟩ := Own.row hown
        have hs7 := hs6.keep hb
        have hB7 := andthen hB6 hb
        clear hown hb hs6 hB6
        go_wp2_with fail
        refine (deep_is g _ _ hs7).mono ?_
        rintro e w8 ⟨⟨d, rfl, hfl⟩, rfl⟩
        go_wp2_with fail
        refine (log_any _ _ (by omega)).mono ?_
        rintro e w9 ⟨q, rfl, hq1, hq2, rfl⟩
        have hdq := hfl.log (k := q) (by exact_mod_cast hq1)
        have hd1 : ¬ 2 * (q : Int) + 2 < (d : Int) := by omega
        have hd2 : decide (2 * (q : Int) + 2 < (d : Int)) = false := decide_eq_false hd1
        have HS7 := hide hs7
        have HB7 := hide hB7
        clear hq1 hfl hs7 hB7
        go_wp2_with fail
        go_roundw
        case rel => exact ⟨m + 1, by omega, by go_num, HS7.out, HB7.out⟩
        case measure => simp [intOf]; omega
      · obtain rfl : m = k := by omega
        rw [HTC.out] at hs
        have HS := hide hs
        have HB1 := hide HB
        clear hs HB hlen
        go_wp2_with fail
        refine (setAll_any g _ _ HS.out (by rw [HCL.out]; omega)).mono ?_
        rintro e w7 ⟨v, rfl, hown, hb⟩
        obtain ⟨A, c, rfl, _⟩ := Own.row hown
        rw [HCL.out]
        have hs7 := HS.out.keep hb
        have hB7 := andthen HB1.out hb
        clear hown hb
        go_wp2_with fail
        refine (setLong_any g _ _ hs7 (by rw [HCL.out]; omega)).mono ?_
        rw [HCS.out]
        rintro e w8 ⟨rfl, hb⟩
        have hs8 := hs7.keep hb
        have hB8 := andthen hB7 hb
        clear hb
        go_wp2_with fail
        refine (s_any _ _ _).mono ?_
        rintro e w9 ⟨rfl, hb⟩
        have hs9 := hs8.keep hb
        have hB9 := andthen hB8 hb
        clear hb
        go_wp2_with fail
        refine (meets_any g _ (f + 1) (f + 2) _ hs9).mono ?_
        rw [HCM.out]
        rintro e w10 ⟨rfl, hb⟩
        have hs10 := hs9.keep hb
        have hB10 := andthen hB9 hb
        clear hb
        go_wp2_with fail
        refine (s_any _ _ _).mono ?_
        rintro e w11 ⟨rfl, hb⟩
        have hs11 := hs10.keep hb
        have hB11 := andthen hB10 hb
        clear hb
        go_wp2_with fail
        refine (has_any g _ f (f + 1) _ hs11).mono ?_
        rw [HCH.out]
        rintro e w12 ⟨rfl, hb⟩
        have HB12 := hide (andthen hB11 hb)
        clear hb
        go_wp2_with fail
        go_ret
        exact ⟨rfl, HB12.out⟩

theorem teeth_law (x f : Int) (bk : Bool) (w : World) (hx0 : 0 ≤ x) (hx1 : x ≤ 255) (hf0 : 0 ≤ f) (hf1 : f ≤ 65535) :
    Calls Try.prog 7 #[.int .u8 x, .int .u16 f, .bool bk] w fun e w' => e = .returned (.bool true) ∧ Below w.heap.size w w' :=
  teeth_main x f bk (x % 200 + 1).toNat w hx0 hx1 hf0 hf1 (by omega)
end Go.Proofs.Ytkjkegjekfebpaa

/- DeedClaims. Written by recipes/de10.py. -/
import Derived.Test.YtocnobgdlgndjaaGreatDeL
import Derived.Test.YtocnobgdlgndjaaGreatDeMathB
import Derived.RegionTactic
import Derived.Lib.QuietBelow
namespace Go.Proofs.YtocnobgdlgndjaaGreat
open Go.RowKit Rul De Cl Go.Sort

theorem isD_give (l : List C) : isD ⟨5, (0, 0), e0, l, 1, 1, b0⟩ = neatB l := by
  have e : sameD ⟨5, (0, 0), e0, l, 1, 1, b0⟩ (bare ⟨5, (0, 0), e0, l, 1, 1, b0⟩) = true := sameD_self _
  unfold isD
  rw [e, Bool.and_true]
  show (neatB l && (peB 1 && seqB 1)) = neatB l
  rw [show peB 1 = true by decide, show seqB 1 = true by decide, Bool.and_self, Bool.and_true]
def dG (l : List C) : D := ⟨5, (0, 0), e0, l, 1, 1, b0⟩
def mG (A : Option Addr) (c : Nat) : DM := ⟨mZ, A, c, mZ⟩
theorem dl_G {w : World} {l : List C} {A : Option Addr} {c : Nat} (h : S2.RowC w A l) (hl : l.length ≤ 300) : DL w (dG l) (mG A c) := ⟨evZ _, h, hl, evZ _⟩
theorem clK_is (i : Nat) (a b : Int) (ha : (i : Int).tdiv 100 = a) (hb : (i : Int).tmod 100 = b) : clK i = (a, (10 * b, 10 * b + 5)) := by
  subst ha hb
  rw [Int.tdiv_eq_ediv_of_nonneg (by omega), Int.tmod_eq_emod_of_nonneg (by omega)]
  unfold clK
  ext1
  · push_cast; rfl
  · ext1 <;> push_cast <;> rfl
theorem dC_swap (l l' : List C) (A B : Option Addr) (c d : Nat) (h : l'.length = l.length) : (dC (dG l) (mG A c)).set 16 (.slice B l.length d) = dC (dG l') (mG B d) := by
  show _ = dC (dG l') (mG B d)
  unfold dC dG mG
  dsimp only
  rw [h]
  rfl
set_option linter.unusedSimpArgs false in
set_option maxRecDepth 100000 in
set_option maxHeartbeats 32000000 in
theorem cl14_any (n s : Int) (w : World) (hn0 : 0 ≤ n) (_hn1 : n ≤ 255) (hs0 : 0 ≤ s) (hs1 : s ≤ 255) :
    Calls Tryz.prog 6 #[.int .u8 n, .int .u8 s] w fun e w' => e = .returned (.bool true) ∧ Below w.heap.size w w' := by
  obtain ⟨r, hr⟩ : ∃ r, n.tmod 3 = r := ⟨_, rfl⟩
  have hr2 : 0 ≤ r ∧ r ≤ 2 := by rw [← hr, Int.tmod_eq_emod_of_nonneg hn0]; omega
  obtain ⟨K, hK⟩ : ∃ K : Nat, (159 + r : Int) = (K : Int) := ⟨(159 + r).toNat, by omega⟩
  have HKK := hide (show 159 ≤ K ∧ K ≤ 161 by omega)
  obtain ⟨r0, r2⟩ := hr2
  have HSK := hide (show ∃ J : Nat, s.tmod ((K : Int) - 1) = (J : Int) ∧ J + 1 < K from ⟨(s % ((K : Int) - 1)).toNat, by
    have := Int.emod_nonneg s (show ((K : Int) - 1) ≠ 0 by omega)
    have h2 := Int.emod_lt_of_pos s (show 0 < ((K : Int) - 1) by omega)
    rw [Int.tmod_eq_emod_of_nonneg hs0]
    omega⟩)
  clear hn0 _hn1
  go_enter Tryz.func6, Tryz.ntmps6
  go_wp2_with fail
  refine (known_any _).mono ?_
  rintro _ W ⟨rfl, hb⟩
  have HB := hide hb
  clear hb
  go_upto_region 4 with fail
  clear hr hK
  go_wp2_with fail
  go_loopw [6, 7] (fun v i wr => ∃ j : Nat, j ≤ K ∧ i = .int .i64 j ∧ Hid (S2.OwnC wr W.heap.size v (lK j)) ∧ Hid (Below W.heap.size W wr)) (fun _ i _ => K - (intOf i).toNat)
  case atStart => exact ⟨0, by omega, rfl, hide (S2.ownC_nil _ _), hide (start W)⟩
  case round =>
    obtain ⟨j, hj, rfl, HO, HB2⟩ := hrel
    by_cases hlt : j < K
    · have hj0 : (0 : Int) ≤ (j : Int) := by omega
      have hj1 : (j : Int) < (K : Int) := by omega
      have hj2 : (j : Int) ≤ 161 := by have := HKK.out; omega
      obtain ⟨a, ha⟩ : ∃ a, (j : Int).tdiv 100 = a := ⟨_, rfl⟩
      obtain ⟨b, hb⟩ : ∃ b, (j : Int).tmod 100 = b := ⟨_, rfl⟩
      have b0 : 0 ≤ b := by rw [← hb, Int.tmod_eq_emod_of_nonneg hj0]; omega
      have b1 : b ≤ 99 := by rw [← hb, Int.tmod_eq_emod_of_nonneg hj0]; omega
      have a0 : 0 ≤ a := by rw [← ha, Int.tdiv_eq_ediv_of_nonneg hj0]; omega
      have a1 : a ≤ 1 := by rw [← ha, Int.tdiv_eq_ediv_of_nonneg hj0]; omega
      have HTK := hide (show lK (j + 1) = lK j ++ [(a, (10 * b, 10 * b + 5))] by rw [lK_succ, clK_is j a b ha hb])
      have HLN := hide (show (lK j).length ≤ 1000000 by rw [lK_len]; have := HKK.out; omega)
      go_wp2_with (refine S2.wp_oneC (l := lK j) (p := (a, (10 * b, 10 * b + 5))) rfl _ _ rfl rfl rfl rfl HO.out HB2.out.size HLN.out ?_; intro v3 w3 hown3 hb3)
      have HO3 := hide hown3
      have HB3 := hide (HB2.out.trans hb3)
      clear hown3 hb3
      go_wp2_with fail
      go_roundw
      case rel => exact ⟨j + 1, by omega, by go_num, by rw [HTK.out]; exact hide HO3.out, hide HB3.out⟩
      case measure => simp [intOf]; omega
    · obtain rfl : j = K := by omega
      clear hlt hj
      obtain ⟨A, c, rfl, hrow, hz⟩ := S2.OwnC.row0 HO.out
      have HR := hide hrow
      have HZ := hide hz
      have HL := hide (show (lK j).length ≤ 300 by rw [lK_len]; have := HKK.out; omega)
      have k0 : (159 : Int) ≤ (j : Int) := by have := HKK.out; omega
      have k1 : (j : Int) ≤ 161 := by have := HKK.out; omega
      obtain ⟨J, hJ, hJk⟩ := HSK.out
      obtain ⟨z, hzz⟩ : ∃ z, decide ((j : Int) ≤ 160) = z := ⟨_, rfl⟩
      have HI := hide (show isD (dG (lK j)) = z by
        rw [← hzz]
        refine (isD_give _).trans ((lK_neat j (by have := HKK.out; omega)).trans ?_)
        by_cases q : j ≤ 160
        · rw [decide_eq_true q, decide_eq_true (by omega)]
        · rw [decide_eq_false q, decide_eq_false (by omega)])
      have HJK := hide hJk
      clear hrow hz HSK hJk
      have HBX := hide (more (start wr) (.cells (dC (dG (lK j)) (mG A c)).toArray 34))
      have RG := hide (range_new wr (dC (dG (lK j)) (mG A c)) 34)
      have HF := hide (fun i => World.frozen?_alloc_at (w := wr) (dC (dG (lK j)) (mG A c)).toArray 34 wr.heap.size i rfl)
      have HS := hide (show (wr.alloc (.cells (dC (dG (lK j)) (mG A c)).toArray 34)).heap.size = wr.heap.size + 1 by simp)
      go_wp2_with (first | refine load_deed rfl _ rfl _ _ rfl _ RG.out rfl ?_ | refine build_at rfl 34 _ rfl (dC (dG (lK j)) (mG A c)).toArray (by kernel_rfl) ?_ | refine store_new rfl _ _ _ rfl wr _ (dC (dG (lK j)) (mG A c)).toArray rfl rfl rfl (by kernel_rfl) (by kernel_rfl) (by kernel_rfl) ?_)
      generalize wr.alloc (.cells (dC (dG (lK j)) (mG A c)).toArray 34) = Wx at *
      refine (dIs_c (dG (lK j)) (mG A c) z _ (dl_G (HR.out.keep HBX.out) HL.out) HI.out).mono ?_
      rintro _ W5 ⟨rfl, hb⟩
      have HB5 := hide hb
      have hnz : ((j : Int) - 1 == 0) = false := by rw [beq_eq_false_iff_ne]; omega
      clear hb HI
      have HR5 := hide (HR.out.keep (andthen HBX.out HB5.out))
      go_upto_region 13 with (refine S2.wp_rowC (A := A) (m := (lK j).length) (c := c) (k := lK j) (B := W5.heap.size) (l := []) rfl _ _ rfl rfl rfl rfl HZ.out HR5.out (S2.ownC_nil _ _) (Nat.le_refl _) (Nat.zero_le _) (by have := HL.out; omega) ?_; intro v6 W6 ho6 hb6; rw [List.nil_append] at ho6)
      obtain ⟨g, cap, rfl, hg0, hg1⟩ := own_some ho6 (by rw [lK_len]; omega)
      have HO6 := hide ho6
      have hc0 := own_cells ho6 J (by rw [lK_len]; have := HJK.out; omega)
      have hc1 := own_cells ho6 (J + 1) (by rw [lK_len]; have := HJK.out; omega)
      rw [lK_get] at hc0 hc1
      have HFZ := hide (fun i => World.ownsRow.frozenAt ho6 i)
      have f0 := HFZ.out (J * 3)
      have f1 := HFZ.out (J * 3 + 1)
      have f2 := HFZ.out (J * 3 + 2)
      have f3 := HFZ.out ((J + 1) * 3)
      have f4 := HFZ.out ((J + 1) * 3 + 1)
      have f5 := HFZ.out ((J + 1) * 3 + 2)
      obtain ⟨c0, c1, c2⟩ := hc0
      obtain ⟨c3, c4, c5⟩ := hc1
      obtain ⟨⟨p, q, u⟩, hp0⟩ : ∃ x, clK J = x := ⟨_, rfl⟩
      obtain ⟨⟨p', q', u'⟩, hp1⟩ : ∃ x, clK (J + 1) = x := ⟨_, rfl⟩
      rw [hp0] at c0 c1 c2
      rw [hp1] at c3 c4 c5
      have HP0 := hide hp0
      have HP1 := hide hp1
      have i0 : (0 : Int) ≤ (J : Int) := by omega
      have i1 : (J : Int) + 1 < (j : Int) := by have := HJK.out; omega
      have i2 : (J : Int) < (j : Int) := by omega
      have i3 : ((J : Int) + 1).toNat = J + 1 := by omega
      have i4 : (lK j).length = j := lK_len j
      have HB6 := hide hb6
      clear ho6 hb6 hp0 hp1
      go_region
      obtain ⟨W7, hW7⟩ : ∃ W7, W7 = (((((((W6.setCell ⟨g, J * 3, none⟩ (.int .i64 p')).setCell ⟨g, J * 3 + 1, none⟩ (.int .i64 q')).setCell ⟨g, J * 3 + 2, none⟩ (.int .i64 u')).setCell ⟨g, (J + 1) * 3, none⟩ (.int .i64 p)).setCell ⟨g, (J + 1) * 3 + 1, none⟩ (.int .i64 q)).setCell ⟨g, (J + 1) * 3 + 2, none⟩ (.int .i64 u)).drew) := ⟨_, rfl⟩
      have HO7 := hide (show S2.OwnC W7 W5.heap.size (.slice (some ⟨g, 0, none⟩) (lK j).length cap) (swap (lK j) J) by
        rw [hW7]
        unfold swap
        rw [HP0.out, HP1.out]
        exact World.ownsRow.drew (own_put (own_put HO6.out rfl J (p', q', u') (by rw [lK_len]; have := HJK.out; omega)) (by rw [List.length_set]) (J + 1) (p, q, u) (by rw [List.length_set, lK_len]; exact HJK.out)))
      have HB7 := hide (show Below W5.heap.size W5 W7 by
        rw [hW7]
        exact ((((((HB6.out.setCell (p := ⟨g, _, none⟩) hg0 _).setCell (p := ⟨g, _, none⟩) hg0 _).setCell (p := ⟨g, _, none⟩) hg0 _).setCell (p := ⟨g, _, none⟩) hg0 _).setCell (p := ⟨g, _, none⟩) hg0 _).setCell (p := ⟨g, _, none⟩) hg0 _).drew)
      rw [← hW7]
      clear hW7 c0 c1 c2 c3 c4 c5 f0 f1 f2 f3 f4 f5 HO6 HB6 HFZ HP0 HP1 hg0 hg1 i0 i1 i2 i3 i4
      have HXW := hide (andthen HB5.out HB7.out)
      have HWR := hide (andthen HBX.out HXW.out)
      have HLT := hide (show wr.heap.size < W5.heap.size by have := HS.out; have := HB5.out.size; omega)
      have c := cell_keepA HXW.out (range_cell RG.out 16 16 _ rfl rfl)
      have f := (HXW.out.frozen (p := ⟨wr.heap.size, 16, none⟩) (by have := HS.out; show wr.heap.size < _; omega)).trans (HF.out 16)
      have HLS := hide (show (swap (lK j) J).length = (lK j).length from swap_len _ _)
      have RG8 := hide (show (W7.setCell ⟨wr.heap.size, 16, none⟩ (.slice (some ⟨g, 0, none⟩) (lK j).length cap)).rangeAt wr.heap.size 0 (dC (dG (swap (lK j) J)) (mG (some ⟨g, 0, none⟩) cap)) by
        rw [← dC_swap (lK j) (swap (lK j) J) A (some ⟨g, 0, none⟩) _ cap HLS.out]
        exact range_set (range_keep RG.out HXW.out) 16 16 _ (by rw [dC_len]; decide) rfl)
      have HW8 := hide (Below.setCell HWR.out (p := ⟨wr.heap.size, 16, none⟩) (Nat.le_refl _) (.slice (some ⟨g, 0, none⟩) (lK j).length cap))
      have HR8 := hide (own_row (own_set HO7.out wr.heap.size 16 (.slice (some ⟨g, 0, none⟩) (lK j).length cap) HLT.out))
      have HIS := hide (show isD (dG (swap (lK j) J)) = false from (isD_give _).trans (swap_no j J HJK.out))
      have f8 : (W7.setCell ⟨wr.heap.size, 16, none⟩ (.slice (some ⟨g, 0, none⟩) (lK j).length cap)).frozen? ⟨wr.heap.size, 16, none⟩ = false := by rw [World.frozen?_setCell]; exact f
      have c8 := range_cell RG8.out 16 16 _ rfl rfl
      have HF8 := hide f8
      have HC8 := hide c8
      clear f8 c8
      go_wp2_with (refine load_deed rfl _ rfl _ _ rfl _ RG8.out rfl ?_)
      generalize W7.setCell ⟨wr.heap.size, 16, none⟩ (.slice (some ⟨g, 0, none⟩) (lK j).length cap) = W8 at *
      refine (dIs_c (dG (swap (lK j) J)) (mG (some ⟨g, 0, none⟩) cap) false _ (dl_G HR8.out (by rw [HLS.out]; exact HL.out)) HIS.out).mono ?_
      rintro _ W9 ⟨rfl, hb⟩
      have HLT8 := hide (show wr.heap.size < W8.heap.size from World.block_lt_of_cell? W8 _ HC8.out)
      replace c := cell_keepA hb HC8.out
      replace f := (hb.frozen (p := ⟨wr.heap.size, 16, none⟩) HLT8.out).trans HF8.out
      have HW9 := hide (andthen HW8.out hb)
      have RG9 := hide (range_keep RG8.out hb)
      have RG10 := hide (show (W9.setCell ⟨wr.heap.size, 16, none⟩ (.slice none 0 0)).rangeAt wr.heap.size 0 (dC (dG []) (mG none 0)) from range_set RG9.out 16 16 (.slice none 0 0) (by rw [dC_len]; decide) rfl)
      have HW10 := hide (Below.setCell HW9.out (p := ⟨wr.heap.size, 16, none⟩) (Nat.le_refl _) (.slice none 0 0))
      clear hb
      go_wp2_with (refine load_deed rfl _ rfl _ _ rfl _ RG10.out rfl ?_)
      refine (dIs_c (dG []) (mG none 0) false _ (dl_G (S2.RowC.nil _ _) (Nat.zero_le _)) (by decide)).mono ?_
      rintro _ W11 ⟨rfl, hb⟩
      have HWF := hide (andthen HB.out (andthen HB2.out (andthen HW10.out hb)))
      clear hb
      go_wp2_with fail
      go_ret
      exact ⟨rfl, HWF.out⟩
end Go.Proofs.YtocnobgdlgndjaaGreat

/- ExpandWeekdays walked. Written by recipes/ex13.py. -/
import Derived.Test.YtdmplojfidkipaaExK
import Derived.Test.YtdmplojfidkipaaExMathC
import Derived.Test.YtdmplojfidkipaaRuV
namespace Go.Proofs.Ytdmplojfidkipaa
open Go.RowKit Rul Go.Sort Spn R

set_option maxRecDepth 100000 in
set_option maxHeartbeats 4000000 in
theorem wd_walk (x mk n s : Int) (cN : Nat) (p : Nat → Bool) (ws : Int) (w : World) (_x0 : 0 ≤ x) (_x1 : x ≤ 65535) (_m0 : 0 ≤ mk) (_m1 : mk ≤ 255) (_n0 : 0 ≤ n) (_n1 : n ≤ 255) (hs : x % 36125 = s) (hc : n % 30 + 1 = (cN : Int))
    (HP : Hid (∀ i : Nat, (bits BinOp.and IntKind.u8 (mk / 2 ^ i) 1 == 1) = p i)) (HZ : Hid ((bits BinOp.and IntKind.u8 mk 127 == 0) = decide (wdL p 7 = []))) (HWS : Hid (Cal.wday s = ws))
    (HS : Hid (startsE (wdR p cN) (s * 1440 + 600) [] = ((wdM p s (s + 210)).take cN, 0))) (HLN : Hid (((wdM p s (s + 210)).take cN).length = cN)) :
    Calls Try.prog 6 #[.int .u16 x, .int .u8 mk, .int .u8 n] w (Ans w (.bool true)) := by
  have t1 : x.tmod 36125 = x % 36125 := Int.tmod_eq_emod_of_nonneg (by omega)
  have t3 : n.tmod 30 = n % 30 := Int.tmod_eq_emod_of_nonneg (by omega)
  have q1 : ((cN : Int) != (cN : Int)) = false := by simp
  go_enter Try.func6, Try.ntmps6
  go_wp2_with fail
  refine (known_any _).mono ?_
  rintro e u1 ⟨rfl, hb⟩
  have HBX := hide hb
  clear hb
  go_wp2_with fail
  have HX := hide (bq_new u1 (.int .i64 2) (.int .i64 1) (.int .i64 cN) (.int .i64 (-1)) (.slice none 0 0) (.slice none 0 0) (.slice none 0 0) 25)
  have HBW := hide (more HBX.out (.cells #[.int .i64 2, .int .i64 1, .int .i64 cN, .int .i64 (-1), .slice none 0 0, .slice none 0 0, .slice none 0 0] 25))
  have hXw : w.heap.size ≤ u1.heap.size := HBX.out.size
  generalize u1.alloc (.cells #[.int .i64 2, .int .i64 1, .int .i64 cN, .int .i64 (-1), .slice none 0 0, .slice none 0 0, .slice none 0 0] 25) = W at *
  generalize u1.heap.size = X at *
  clear HBX
  go_loopw [9] (fun i wr => ∃ (j : Nat) (v : Value), j ≤ 7 ∧ i = .int .i64 j ∧ OwnD wr (X + 1) v (wdL p j) ∧ Bq wr X (.int .i64 2) (.int .i64 1) (.int .i64 cN) (.int .i64 (-1)) v (.slice none 0 0) (.slice none 0 0) ∧ Below w.heap.size w wr) (fun i _ => 7 - (intOf i).toNat)
  case atStart => exact ⟨0, _, Nat.zero_le _, rfl, ownD_nil _ _, HX.out, HBW.out⟩
  case round =>
    obtain ⟨j, v, hj, rfl, hown, hbx, hbw⟩ := hrel
    obtain ⟨D, cap, rfl, hrow⟩ := OwnD.row hown
    have gj0 : (0 : Int) ≤ (j : Int) := by omega
    by_cases hlt : j < 7
    · cases hq : p j
      · have hbit : (bits BinOp.and IntKind.u8 (mk / 2 ^ j) 1 == 1) = false := by rw [HP.out j]; exact hq
        have HN := hide (wdL_no p j hq)
        have HBB := hide hbx
        have HWW := hide hbw
        have HO := hide hown
        clear hbx hbw hrow hq hown
        go_wp2_with fail
        go_roundw
        case rel => exact ⟨j + 1, _, by omega, by go_num, by rw [HN.out]; exact HO.out, HBB.out, HWW.out⟩
        case measure => simp [intOf]; omega
      · have hbit : (bits BinOp.and IntKind.u8 (mk / 2 ^ j) 1 == 1) = true := by rw [HP.out j]; exact hq
        have HN := hide (wdL_yes p j hq)
        have e4 := hbx.c4
        have HBB := hide hbx
        have HWW := hide hbw
        have hXB : X + 1 ≤ wr.heap.size := hbx.lt
        have hl1 : (wdL p j).length ≤ 1000000 := Nat.le_trans (wdL_len p j) (by omega)
        have hlen : (wdL p j ++ [((0 : Int), (j : Int))]).length = (wdL p j).length + 1 := by simp
        clear hbx hbw hrow hq
        go_wp2_with (at_builtin; refine wp_oneD (l := wdL p j) (p := ((0 : Int), (j : Int))) rfl _ _ rfl rfl rfl rfl hown hXB hl1 ?_; intro v' w' hown' hb'; obtain ⟨D2, cap2, hv', _⟩ := OwnD.row hown'; rw [hlen] at hv'; subst hv'; have HB2 := hide (HBB.out.keep hb' (Nat.lt_succ_self X)); have k4 := HB2.out.c4; have kf := HB2.out.f 4; have HO := hide hown'; have HB3 := hide (HWW.out.trans (hb'.mono (show w.heap.size ≤ X + 1 from Nat.le_succ_of_le hXw))); clear hown' hb' hown)
        go_roundw
        case rel => exact ⟨j + 1, _, by omega, by go_num, by rw [HN.out]; exact ownsRow_setCell_below HO.out (a := ⟨X, 4, none⟩) (Nat.lt_succ_self X) _, HB2.out.set4 _, HB3.out.setCell (show w.heap.size ≤ X from hXw) _⟩
        case measure => simp [intOf]; omega
    · obtain rfl : j = 7 := by omega
      have HL : Hid (Lies wr D (wdL p 7).length none 0 none 0 (wdL p 7) [] []) := hide ⟨hrow, rfl, Nat.le_trans (wdL_len p 7) (by omega), RowI.nil _ _, rfl, by simp, RowI.nil _ _, rfl, by simp⟩
      obtain ⟨c0, c1, c2, c3, c4, c5, c6, _, _⟩ := hbx
      have HBX := hide hbw
      clear hbw hrow hown
      go_wp2_with fail
      refine (starts_code 2 1 cN (-1) D none none (wdL p 7).length cap 0 0 0 0 (wdL p 7) [] [] (s * 1440 + 600) none 0 0 [] _ HL.out (RowI.nil _ _) rfl (by simp)).mono ?_
      rintro e u3 ⟨v1, rfl, hown, hb⟩
      rw [HS.out] at hown ⊢
      obtain ⟨A, cap1, hv, hrow⟩ := hown.row
      rw [HLN.out] at hv
      subst hv
      have HR := hide hrow
      replace HBX := hide (andthen HBX.out hb)
      replace c2 := cell_keep hb c2
      clear hb hown hrow c0 c1 c3 c4 c5 c6 HL
      go_wp2_with fail
      generalize u3 = U at *
      go_loopw [12, 13, 14] (fun aa dd _ wr => ∃ (j : Nat) (d : Int), s ≤ d ∧ d ≤ s + 400 ∧ j ≤ cN ∧ (wdM p s d).length = j ∧ aa = .int .i64 j ∧ dd = .int .i64 d ∧ Below U.heap.size U wr) (fun _ dd _ _ => (s + 400 - intOf dd).toNat)
      case atStart => exact ⟨0, s, Int.le_refl _, by omega, Nat.zero_le _, by unfold wdM; rw [upto_nil]; rfl, rfl, rfl, start _⟩
      case round =>
        obtain ⟨j, d, hd1, hd2, hj, hjm, rfl, rfl, hbw⟩ := hrel
        have HBR := hide hbw
        have HJM := hide hjm
        clear hbw hjm
        have gj0 : (0 : Int) ≤ (j : Int) := by omega
        by_cases hlt : j < cN
        · have hd3 : d < s + 210 := by
            rcases Int.lt_or_le d (s + 210) with g | g
            · exact g
            · have := wd_full p s d g; have := HJM.out; omega
          have gd : d < s + 400 := by omega
          have hwb := Cal.wday_bd d
          obtain ⟨wn, hwn⟩ : ∃ wn : Nat, Cal.wday d = (wn : Int) := ⟨(Cal.wday d).toNat, by omega⟩
          have hw7 : (wn : Int) ≤ 6 := by omega
          have hw0 : (0 : Int) ≤ (wn : Int) := by omega
          have hWd : wdW p s d = (p wn || (decide (wdL p 7 = []) && ((wn : Int) == ws))) := by unfold wdW; rw [hwn, HWS.out]; rfl
          have HWN := hide hwn
          clear hwn hwb
          cases hp : p wn
          · have hbit : (bits BinOp.and IntKind.u8 (mk / 2 ^ wn) 1 == 1) = false := by rw [HP.out wn]; exact hp
            rw [hp, Bool.false_or] at hWd
            by_cases hn : wdL p 7 = []
            · have hzz : (bits BinOp.and IntKind.u8 mk 127 == 0) = true := by rw [HZ.out]; exact decide_eq_true hn
              rw [decide_eq_true hn, Bool.true_and] at hWd
              cases hw : ((wn : Int) == ws)
              · have hW := hWd.trans hw
                clear hp hn hWd
                have HN := hide (wdM_no p s d hd1 hW)
                clear hW
                go_wp2_with fail
                refine (rweekday_is d wn _ HWN.out).mono ?_
                rintro e v1 ⟨rfl, rfl⟩
                go_wp2_with fail
                refine (rweekday_is s ws _ HWS.out).mono ?_
                rintro e v2 ⟨rfl, rfl⟩
                go_wp2_with fail
                go_roundw
                case rel => exact ⟨j, d + 1, by omega, by omega, hj, by rw [HN.out]; exact HJM.out, rfl, rfl, HBR.out⟩
                case measure => simp [intOf]; omega
              · have hW := hWd.trans hw
                clear hp hn hWd
                have HN := hide (wdM_yes p s d hd1 hW)
                have hil : (wdM p s d).length < ((wdM p s (s + 210)).take cN).length := by rw [HLN.out, HJM.out]; exact hlt
                have hget := wd_at p cN s d hd1 hd3 hW hil
                obtain ⟨b1, o1, rfl, hb1, hc1⟩ := HR.out (by intro h0; rw [h0] at hil; exact absurd hil (Nat.not_lt_zero _))
                have p1 : wr.cell? ⟨b1, o1 + j, none⟩ = some (.int .i64 (d * 1440 + 600)) := by rw [← hget]; simp only [HJM.out]; exact ((HBR.out.cell (p := ⟨b1, _, none⟩) hb1)).trans (hc1 j (by rw [HLN.out]; exact hlt))
                have hi1 : (j : Int) < (cN : Int) := by omega
                have hkk : (d * 1440 + 600 != d * 1440 + 600) = false := by simp
                clear hget hc1 hil hW
                go_wp2_with fail
                refine (rweekday_is d wn _ HWN.out).mono ?_
                rintro e v1 ⟨rfl, rfl⟩
                go_wp2_with fail
                refine (rweekday_is s ws _ HWS.out).mono ?_
                rintro e v2 ⟨rfl, rfl⟩
                go_wp2_with fail
                go_roundw
                case rel => exact ⟨j + 1, d + 1, by omega, by omega, by omega, by rw [HN.out, List.length_append, HJM.out]; rfl, by go_num, rfl, HBR.out⟩
                case measure => simp [intOf]; omega
            · have hzz : (bits BinOp.and IntKind.u8 mk 127 == 0) = false := by rw [HZ.out]; exact decide_eq_false hn
              have hW : wdW p s d = false := by rw [hWd, decide_eq_false hn]; rfl
              clear hp hn hWd
              have HN := hide (wdM_no p s d hd1 hW)
              clear hW
              go_wp2_with fail
              refine (rweekday_is d wn _ HWN.out).mono ?_
              rintro e v1 ⟨rfl, rfl⟩
              go_wp2_with fail
              go_roundw
              case rel => exact ⟨j, d + 1, by omega, by omega, hj, by rw [HN.out]; exact HJM.out, rfl, rfl, HBR.out⟩
              case measure => simp [intOf]; omega
          · have hbit : (bits BinOp.and IntKind.u8 (mk / 2 ^ wn) 1 == 1) = true := by rw [HP.out wn]; exact hp
            have hW : wdW p s d = true := by rw [hWd, hp]; rfl
            clear hp hWd
            have HN := hide (wdM_yes p s d hd1 hW)
            have hil : (wdM p s d).length < ((wdM p s (s + 210)).take cN).length := by rw [HLN.out, HJM.out]; exact hlt
            have hget := wd_at p cN s d hd1 hd3 hW hil
            obtain ⟨b1, o1, rfl, hb1, hc1⟩ := HR.out (by intro h0; rw [h0] at hil; exact absurd hil (Nat.not_lt_zero _))
            have p1 : wr.cell? ⟨b1, o1 + j, none⟩ = some (.int .i64 (d * 1440 + 600)) := by rw [← hget]; simp only [HJM.out]; exact ((HBR.out.cell (p := ⟨b1, _, none⟩) hb1)).trans (hc1 j (by rw [HLN.out]; exact hlt))
            have hi1 : (j : Int) < (cN : Int) := by omega
            have hkk : (d * 1440 + 600 != d * 1440 + 600) = false := by simp
            clear hget hc1 hil hW
            go_wp2_with fail
            refine (rweekday_is d wn _ HWN.out).mono ?_
            rintro e v1 ⟨rfl, rfl⟩
            go_wp2_with fail
            go_roundw
            case rel => exact ⟨j + 1, d + 1, by omega, by omega, by omega, by rw [HN.out, List.length_append, HJM.out]; rfl, by go_num, rfl, HBR.out⟩
            case measure => simp [intOf]; omega
        · obtain rfl : j = cN := by omega
          have gq : ((j : Int) == (j : Int)) = true := beq_self_eq_true _
          go_wp2_with fail
          go_ret
          exact ⟨rfl, andthen HBX.out HBR.out⟩
theorem wd_masks : ∀ k : Fin 256, (bits BinOp.and IntKind.u8 (k.val : Int) 127 == 0) = decide (wdL (fun i : Nat => bits BinOp.and IntKind.u8 ((k.val : Int) / 2 ^ i) 1 == 1) 7 = []) ∧ recB (wdR (fun i : Nat => bits BinOp.and IntKind.u8 ((k.val : Int) / 2 ^ i) 1 == 1) 0) = true := by decide +kernel
theorem wd6_any (x mk n : Int) (w : World) (x0 : 0 ≤ x) (x1 : x ≤ 65535) (m0 : 0 ≤ mk) (m1 : mk ≤ 255) (n0 : 0 ≤ n) (n1 : n ≤ 255) :
    Calls Try.prog 6 #[.int .u16 x, .int .u8 mk, .int .u8 n] w (Ans w (.bool true)) := by
  obtain ⟨cN, hc⟩ : ∃ cN : Nat, n % 30 + 1 = (cN : Int) := ⟨(n % 30 + 1).toNat, by omega⟩
  have hm := wd_masks ⟨mk.toNat, by omega⟩
  have e : ((mk.toNat : Nat) : Int) = mk := by omega
  simp only [e] at hm
  have hs := wd_starts (fun i : Nat => bits BinOp.and IntKind.u8 (mk / 2 ^ i) 1 == 1) cN (x % 36125) (wdR_rec _ cN (by omega) (by omega) hm.2) (by omega) (by omega) (by omega) (by omega)
  exact wd_walk x mk n _ cN (fun i : Nat => bits BinOp.and IntKind.u8 (mk / 2 ^ i) 1 == 1) _ w x0 x1 m0 m1 n0 n1 rfl hc (hide fun i => rfl) (hide hm.1) (hide rfl) (hide hs.1) (hide hs.2)

end Go.Proofs.Ytdmplojfidkipaa

/- LineBack walked: what is joined is split, whatever the value; in small letters too. -/
import Derived.Test.YtojhajlhbhkddaaLiK
namespace Go.Proofs.Ytojhajlhbhkddaa
open Go.RowKit Rul Rt Fo Li Go.Sort

set_option maxRecDepth 100000 in
set_option maxHeartbeats 1000000 in
theorem lback_any (a v : ByteArray) (sm : Int) (w : World) (he : Env w) (_s0 : 0 ≤ sm) (_s1 : sm ≤ 4294967295) :
    Calls Try.prog 4 #[.string a, .string v, .int .u32 sm] w (Ans w (.bool true)) := by
  have HE := hide he
  have HK := hide (lknown_any w he)
  clear he
  by_cases h1 : 20 < a.size
  · have d1 : decide ((20 : Int) < (a.size : Int)) = true := decide_eq_true (by omega)
    go_enter Try.func4, Try.ntmps4
    go_wp2_with fail
    refine (HK.out).mono ?_
    rintro e w1 ⟨rfl, hb1⟩
    have HB := hide hb1
    clear hb1
    go_wp2_with fail
    go_ret
    exact ⟨rfl, HB.out⟩
  have d1 : decide ((20 : Int) < (a.size : Int)) = false := decide_eq_false (by omega)
  by_cases h2 : 300 < v.size
  · have d2 : decide ((300 : Int) < (v.size : Int)) = true := decide_eq_true (by omega)
    go_enter Try.func4, Try.ntmps4
    go_wp2_with fail
    refine (HK.out).mono ?_
    rintro e w1 ⟨rfl, hb1⟩
    have HB := hide hb1
    clear hb1
    go_wp2_with fail
    go_ret
    exact ⟨rfl, HB.out⟩
  have d2 : decide ((300 : Int) < (v.size : Int)) = false := decide_eq_false (by omega)
  cases hnm : nameE a.data.toList with
  | false =>
    have HN := hide (fun w => name_at a false w (by omega) hnm)
    clear hnm
    go_enter Try.func4, Try.ntmps4
    go_wp2_with fail
    refine (HK.out).mono ?_
    rintro e w1 ⟨rfl, hb1⟩
    have HB := hide hb1
    clear hb1
    go_wp2_with fail
    refine (HN.out _).mono ?_
    rintro e w2 ⟨rfl, hb2⟩
    replace HB := hide (andthen HB.out hb2)
    clear hb2
    go_wp2_with fail
    go_ret
    exact ⟨rfl, HB.out⟩
  | true =>
    have HN := hide (fun w => name_at a true w (by omega) hnm)
    obtain ⟨n, hn⟩ : ∃ n, a.size = n := ⟨_, rfl⟩
    have hcv := bytes_conv a n hn
    have HM := hide (fun w cap => bytes_made a w cap)
    have hln : a.data.toList.length = n := by rw [len_of, hn]
    have hn20 : (n : Int) ≤ 20 := by omega
    have HAS := hide (str_of a)
    obtain ⟨L, hL⟩ : ∃ L, a.data.toList = L := ⟨_, rfl⟩
    rw [hL] at HM hln hnm HAS
    have HLN := hide hln
    have HMX := hide (mix_start L hnm)
    have HNM := hide hnm
    have hv3 : v.size ≤ 300 := by omega
    have HV := hide (str_of v)
    obtain ⟨V, hV⟩ : ∃ V, v.data.toList = V := ⟨_, rfl⟩
    rw [hV] at HV
    have d1n : decide ((20 : Int) < (n : Int)) = false := decide_eq_false (by omega)
    rw [hn] at d1
    clear hln hnm h1 h2 hL hV
    go_enter Try.func4, Try.ntmps4
    go_wp2_with fail
    refine (HK.out).mono ?_
    rintro e w1 ⟨rfl, hb1⟩
    have HB := hide hb1
    clear hb1
    go_wp2_with fail
    refine (HN.out _).mono ?_
    rintro e w2 ⟨rfl, hb2⟩
    replace HB := hide (andthen HB.out hb2)
    clear hb2
    go_wp2_with fail
    obtain ⟨cap, hcap⟩ : ∃ cap, grownCap w2 n 0 5 = cap := ⟨_, rfl⟩
    rw [hcap]
    have HR := hide (HM.out w2 cap).1
    have HB2 := hide (HM.out w2 cap).2
    clear hcv hcap HM
    generalize (w2.alloc (.cells (bytesRow a cap) 5 ((bytesRow a cap).size, (bytesRow a cap).size + 1))).drew = W1 at *
    generalize hg : w2.heap.size = g at *
    go_loopw [8] (fun i wr => ∃ (k : Nat) (D : Tx), k ≤ n ∧ i = .int .i64 k ∧ Hid (RowY wr g D) ∧ Hid (Mix L D) ∧ Hid (Below g w2 wr)) (fun i _ => n - (intOf i).toNat)
    case atStart => exact ⟨0, L, Nat.zero_le _, rfl, HR, HMX, HB2⟩
    case round =>
      obtain ⟨k, D, hk, rfl, HY, HX, HW⟩ := hrel
      have hDl : D.length = n := by rw [HX.out.1, HLN.out]
      by_cases hlt : k < n
      · have hkD : k < D.length := by rw [hDl]; exact hlt
        obtain ⟨c, hc⟩ : ∃ c, D[k]'hkD = c := ⟨_, rfl⟩
        have p1 : wr.cell? ⟨g, k, none⟩ = some (.int .u8 (c.toNat : Int)) := by rw [HY.out.at_ k hkD, hc]
        have f1 := HY.out.free k hkD
        have hi0 : (0 : Int) ≤ (k : Int) := by omega
        have hi1 : (k : Int) < (n : Int) := by omega
        cases hbit : (bits BinOp.and IntKind.u32 (sm / 2 ^ k) 1 == 1) with
        | false =>
          clear hc hkD hDl
          go_wp2_with fail
          go_roundw
          case rel => exact ⟨k + 1, D, by omega, by go_num, HY, HX, HW⟩
          case measure => simp [intOf]; omega
        | true =>
          by_cases g1 : (65 : Int) ≤ (c.toNat : Int)
          · have e1 : decide ((65 : Int) ≤ (c.toNat : Int)) = true := decide_eq_true g1
            by_cases g2 : (c.toNat : Int) ≤ 90
            · have e2 : decide ((c.toNat : Int) ≤ 90) = true := decide_eq_true g2
              obtain ⟨x, hx⟩ : ∃ x : Int, (c.toNat : Int) + 32 = x := ⟨_, rfl⟩
              have hw1 : IntKind.u8.wrap ((c.toNat : Int) + 32) = x := by rw [hx]; exact IntWalk.u8_in _ (by omega)
              have hux : x = ((c + 32).toNat : Int) := by rw [add32 c (by omega)]; omega
              have HY2 := hide (HY.out.set k (c + 32) x hux hkD)
              have HX2 := hide (HX.out.set k c hkD hc (by omega) (by omega))
              have HW2 := hide (HW.out.setCell (p := ⟨g, k, none⟩) (Nat.le_refl _) (.int .u8 x))
              clear hux hc hkD hDl
              go_wp2_with fail
              go_roundw
              case rel => exact ⟨k + 1, _, by omega, by go_num, HY2, HX2, HW2⟩
              case measure => simp [intOf]; omega
            · have e2 : decide ((c.toNat : Int) ≤ 90) = false := decide_eq_false g2
              clear hc hkD hDl
              go_wp2_with fail
              go_roundw
              case rel => exact ⟨k + 1, D, by omega, by go_num, HY, HX, HW⟩
              case measure => simp [intOf]; omega
          · have e1 : decide ((65 : Int) ≤ (c.toNat : Int)) = false := decide_eq_false g1
            clear hc hkD hDl
            go_wp2_with fail
            go_roundw
            case rel => exact ⟨k + 1, D, by omega, by go_num, HY, HX, HW⟩
            case measure => simp [intOf]; omega
      · obtain rfl : k = n := by omega
        have hcb := HY.out.conv k cap hDl.symm
        have hz1 : (str D).size ≤ 20 := by rw [str_size, hDl]; omega
        have hz2 : (str D ++ str [58]).size ≤ 21 := by rw [ByteArray.size_append, str_size [58]]; simp; exact hz1
        have HC := hide (fun w he => split_at (str D ++ str [58] ++ v) (some (L, V)) w he (by rw [ByteArray.size_append]; omega) (by
          rw [HV.out, str_app, str_app, str_list, List.append_assoc]
          exact HX.out.line HNM.out V))
        simp only [splA] at HC
        have qL : ((str L).toList == a.toList) = true := by rw [← HAS.out]; exact beq_self_eq_true _
        have qV : ((str V).toList == v.toList) = true := by rw [← HV.out]; exact beq_self_eq_true _
        replace HB := hide (HB.out.trans (HW.out.mono (by rw [← hg]; exact HB.out.size)))
        clear hDl
        go_wp2_with fail
        refine (HC.out _ (HE.out.keep HB.out)).mono ?_
        rintro e w3 ⟨rfl, hb3⟩
        replace HB := hide (andthen HB.out hb3)
        clear hb3
        go_wp2_with fail
        go_ret
        exact ⟨rfl, HB.out⟩

end Go.Proofs.Ytojhajlhbhkddaa

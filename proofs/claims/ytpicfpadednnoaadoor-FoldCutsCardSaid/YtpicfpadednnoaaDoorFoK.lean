/- What the statements of folding share: same, known. -/
import Derived.Test.YtpicfpadednnoaaDoorFoR
import Derived.Test.YtpicfpadednnoaaDoorFoU
import Derived.Deep.QuietTactic
import Derived.BigQuiet
namespace Go.Proofs.YtpicfpadednnoaaDoor
open Go.RowKit Rul Rt Fo Go.Sort

set_option maxRecDepth 100000 in
set_option maxHeartbeats 1000000 in
theorem same_any (A B : Option Addr) (n m c d : Nat) (l k : List Tx) (w : World) (hl : RowS w A l) (hk : RowS w B k) (hn : n = l.length) (hm : m = k.length) (hsz : l.length ≤ 1000000) :
    Calls Tryd.prog 13 #[.slice A n c, .slice B m d] w (Ans w (.bool (decide (l = k)))) := by
  have HL := hide hl
  have HK := hide hk
  have HN := hide hn
  have HM := hide hm
  rw [← hn] at hsz
  clear hl hk hn hm
  by_cases hnm : n = m
  · subst hnm
    go_enter Tryd.func13, Tryd.ntmps13
    go_wp2_with fail
    go_loopw [5] (fun i wr => ∃ j : Nat, j ≤ n ∧ i = .int .i64 j ∧ Hid (l.take j = k.take j) ∧ Below w.heap.size w wr) (fun i _ => n - (intOf i).toNat)
    case atStart => exact ⟨0, Nat.zero_le _, rfl, hide rfl, start _⟩
    case round =>
      obtain ⟨j, hj, rfl, HE, hbw⟩ := hrel
      have HBR := hide hbw
      clear hbw
      by_cases hlt : j < n
      · have hjl : j < l.length := by rw [← HN.out]; exact hlt
        have hjk : j < k.length := by rw [← HM.out]; exact hlt
        obtain ⟨b1, o1, rfl, hb1, hc1⟩ := HL.out (by intro h0; rw [h0] at hjl; exact absurd hjl (Nat.not_lt_zero _))
        obtain ⟨b2, o2, rfl, hb2, hc2⟩ := HK.out (by intro h0; rw [h0] at hjk; exact absurd hjk (Nat.not_lt_zero _))
        obtain ⟨x, hx⟩ : ∃ x, l[j] = x := ⟨_, rfl⟩
        obtain ⟨y, hy⟩ : ∃ y, k[j] = y := ⟨_, rfl⟩
        have p1 : wr.cell? ⟨b1, o1 + j, none⟩ = some (.string (str x)) := by rw [← hx]; exact (HBR.out.cell (p := ⟨b1, _, none⟩) hb1).trans (hc1 j hjl)
        have p2 : wr.cell? ⟨b2, o2 + j, none⟩ = some (.string (str y)) := by rw [← hy]; exact (HBR.out.cell (p := ⟨b2, _, none⟩) hb2).trans (hc2 j hjk)
        have hi0 : (0 : Int) ≤ (j : Int) := by omega
        have hi1 : (j : Int) < (n : Int) := by omega
        have q1 := str_tl x
        have q2 := str_tl y
        have HB2 := hide (fun a => below_drawn HBR.out a)
        by_cases hq : x = y
        · have HN2 : Hid (l.take (j + 1) = k.take (j + 1)) := hide (by rw [List.take_succ_eq_append_getElem hjl, List.take_succ_eq_append_getElem hjk, HE.out, hx, hy, hq])
          have q3 : (x == y) = true := by rw [tx_eq, decide_eq_true hq]
          have q4 : (x != y) = false := by rw [bne, q3]; rfl
          clear hx hy hq hc1 hc2 hjl hjk
          go_wp2_with fail
          go_quiet (fail)
          have HB3 := hide (HB2.out nq)
          generalize wr.drewN nq = wq at *
          clear HB2
          go_wp2_with fail
          go_roundw
          case rel => exact ⟨j + 1, by omega, by go_num, HN2, HB3.out⟩
          case measure => simp [intOf]; omega
        · have HF : Hid (decide (l = k) = false) := hide (decide_eq_false (fun e => by subst e; exact hq (by rw [← hx, ← hy])))
          have q3 : (x == y) = false := by rw [tx_eq, decide_eq_false hq]
          have q4 : (x != y) = true := by rw [bne, q3]; rfl
          clear hx hy hq hc1 hc2 hjl hjk
          go_wp2_with fail
          go_quiet (fail)
          have HB3 := hide (HB2.out nq)
          generalize wr.drewN nq = wq at *
          clear HB2
          go_wp2_with fail
          go_ret
          exact ⟨ret_bool HF.out.symm, HB3.out⟩
      · obtain rfl : j = n := by omega
        have HF : Hid (decide (l = k) = true) := hide (decide_eq_true (by
          have h := HE.out
          rw [List.take_of_length_le (by have := HN.out; omega), List.take_of_length_le (by have := HM.out; omega)] at h
          exact h))
        go_wp2_with fail
        go_ret
        exact ⟨ret_bool HF.out.symm, HBR.out⟩
  · have HF : Hid (decide (l = k) = false) := hide (decide_eq_false (fun e => by subst e; exact hnm (by rw [HN.out, HM.out])))
    have q : ((n : Int) != (m : Int)) = true := by rw [bne_iff_ne]; omega
    go_enter Tryd.func13, Tryd.ntmps13
    go_wp2_with fail
    go_ret
    exact ⟨ret_bool HF.out.symm, start _⟩

theorem unfold_at (t : Tx) (l : List Tx) (w : World) (he : Env w) (ht : t.length ≤ 100000) (h : unfoldE t = l) : Calls Tryd.prog 14 #[.string (str t)] w (GivesS w l) := by
  have := unfold_any (str t) w he (by rw [str_size]; exact ht)
  rw [str_list, h] at this
  exact this
theorem unescape_at (t : Tx) (o : Option Tx) (w : World) (he : Env w) (ht : t.length ≤ 100000) (h : unE t = o) : Calls Tryd.prog 9 #[.string (str t)] w (Ans w (unA o)) := by
  have := unescape_any (str t) w he (by rw [str_size]; exact ht)
  rw [str_list, h] at this
  exact this
theorem escape_at (t r : Tx) (w : World) (ht : t.length ≤ 100000) (h : escE t = r) : Calls Tryd.prog 16 #[.string (str t)] w (Ans w (.string (str r))) := by
  have := escape_any (str t) w (by rw [str_size]; exact ht)
  rw [str_list, h] at this
  exact this
theorem fold_at (t r : Tx) (w : World) (ht : t.length ≤ 100000) (h : foldE t = r) : Calls Tryd.prog 11 #[.string (str t)] w (Ans w (.string (str r))) := by
  have := fold_any (str t) w (by rw [str_size]; exact ht)
  rw [str_list, h] at this
  exact this

theorem k1 : unfoldE [97, 13, 10, 32, 98, 13, 10, 99, 13, 10] = [[97, 98], [99]] := by
  have h : Lib.split [97, 13, 10, 32, 98, 13, 10, 99, 13, 10] crlf = [[97], [32, 98], [99], []] := by decide +kernel
  unfold unfoldE
  rw [h]; rfl
theorem k2 : unE [97, 92, 44, 98, 92, 110] = some [97, 44, 98, 10] := by decide +kernel
theorem k3 : unE [97, 44, 98] = none := by decide +kernel
theorem k4 : escE [97, 44, 98] = [97, 92, 44, 98] := by decide +kernel
theorem k5 : foldE [97, 98, 99] = [97, 98, 99] := foldE_short _ (by decide)

set_option maxRecDepth 100000 in
set_option maxHeartbeats 1000000 in
theorem known_any (w : World) (he : Env w) : Calls Tryd.prog 8 #[] w (Ans w (.bool true)) := by
  have H1 := hide (unfold_at _ _ w he (by decide) k1)
  have H2 := hide (fun w he => unescape_at _ _ w he (by decide) k2)
  have H3 := hide (fun w he => unescape_at _ _ w he (by decide) k3)
  have H4 := hide (fun w => escape_at _ _ w (by decide) k4)
  have H5 := hide (fun w => fold_at _ _ w (by decide) k5)
  have HE := hide he
  clear he
  go_enter Tryd.func8, Tryd.ntmps8
  go_wp2_with fail
  refine (H1.out).mono ?_
  rintro e w1 ⟨v, rfl, hown, hb1⟩
  obtain ⟨A, cap, rfl, hrow, hcap⟩ := OwnS.row hown
  obtain ⟨b, o, rfl, hbl, hc⟩ := hrow (by simp)
  have c0 := hc 0 (by simp)
  have c1 := hc 1 (by simp)
  simp only [List.getElem_cons_zero, List.getElem_cons_succ, Nat.add_zero] at c0 c1
  have HB := hide hb1
  clear hown hrow hb1 hc
  go_wp2_with fail
  refine (H2.out _ (HE.out.keep HB.out)).mono ?_
  rintro e w2 ⟨rfl, hb2⟩
  have d0 := (hb2.cell (p := ⟨b, o, none⟩) hbl).trans c0
  have d1 := (hb2.cell (p := ⟨b, o + 1, none⟩) hbl).trans c1
  have hbl2 := Nat.lt_of_lt_of_le hbl hb2.size
  replace HB := hide (andthen HB.out hb2)
  clear hb2 hbl c0 c1
  unfold unA
  go_wp2_with fail
  refine (H3.out _ (HE.out.keep HB.out)).mono ?_
  rintro e w3 ⟨rfl, hb3⟩
  have e0 := (hb3.cell (p := ⟨b, o, none⟩) hbl2).trans d0
  have e1 := (hb3.cell (p := ⟨b, o + 1, none⟩) hbl2).trans d1
  replace HB := hide (andthen HB.out hb3)
  clear hb3 hbl2 d0 d1
  unfold unA
  have q1 : ((str [97, 98]).toList == ([97, 98] : List UInt8)) = true := by rw [str_tl]; rfl
  have q2 : ((str [99]).toList == ([99] : List UInt8)) = true := by rw [str_tl]; rfl
  have q3 : ((str [97, 44, 98, 10]).toList == ([97, 44, 98, 10] : List UInt8)) = true := by rw [str_tl]; rfl
  have q4 : ((str [97, 92, 44, 98]).toList == ([97, 92, 44, 98] : List UInt8)) = true := by rw [str_tl]; rfl
  have q5 : ((str [97, 98, 99]).toList == ([97, 98, 99] : List UInt8)) = true := by rw [str_tl]; rfl
  go_wp2_with fail
  refine (H4.out _).mono ?_
  rintro e w4 ⟨rfl, hb4⟩
  replace HB := hide (andthen HB.out hb4)
  clear hb4
  go_wp2_with fail
  refine (H5.out _).mono ?_
  rintro e w5 ⟨rfl, hb5⟩
  replace HB := hide (andthen HB.out hb5)
  clear hb5
  go_wp2_with fail
  go_ret
  exact ⟨rfl, HB.out⟩

end Go.Proofs.YtpicfpadednnoaaDoor

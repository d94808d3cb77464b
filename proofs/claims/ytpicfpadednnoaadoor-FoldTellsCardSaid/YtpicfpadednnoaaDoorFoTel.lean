/- FoldTells walked: of every text how it is folded, unfolded, with signs, without. -/
import Derived.Test.YtpicfpadednnoaaDoorFoK
namespace Go.Proofs.YtpicfpadednnoaaDoor
open Go.RowKit Rul Rt Fo Go.Sort

theorem ex_str (s : ByteArray) (P : ByteArray → Prop) (h : ∀ t, P (str t)) : P s := by rw [str_of s]; exact h _

set_option maxRecDepth 100000 in
set_option maxHeartbeats 1000000 in
theorem tells_any (s : ByteArray) (w : World) (he : Env w) :
    Calls Tryd.prog 3 #[.string s] w (Ans w (.bool true)) := by
  have HE := hide he
  have HK := hide (known_any w he)
  clear he
  by_cases hbig : 600 < s.size
  · have q : decide ((600 : Int) < (s.size : Int)) = true := decide_eq_true (by omega)
    go_enter Tryd.func3, Tryd.ntmps3
    go_wp2_with fail
    refine (HK.out).mono ?_
    rintro e w1 ⟨rfl, hb1⟩
    have HB := hide hb1
    clear hb1
    go_wp2_with fail
    go_ret
    exact ⟨rfl, HB.out⟩
  · have q : decide ((600 : Int) < (s.size : Int)) = false := decide_eq_false (by omega)
    have hs : s.size ≤ 100000 := by omega
    have C1 := hide (fun w he => unescape_any s w he hs)
    have C2 := hide (fun w => rUnescape_any s w hs)
    have C3 := hide (fun w => fold_any s w hs)
    have C4 := hide (fun w => rFold_any s w hs)
    have C5 := hide (fun w he => unfold_any s w he hs)
    have C6 := hide (fun w => rUnfold_any s w hs)
    have C7 := hide (fun w => escape_any s w hs)
    have C8 := hide (fun w => rEscape_any s w hs)
    have HUL : Hid ((unfoldE s.data.toList).length ≤ 1000000) := hide (by
      have h1 := split_len s.data.toList
      have h2 := fin_len (Lib.split s.data.toList crlf)
      have h3 := grp_len _ (fin (Lib.split s.data.toList crlf)) (Nat.le_refl _)
      rw [len_of] at h1
      unfold unfoldE; rw [lines_grp]; omega)
    generalize unE s.data.toList = o at *
    generalize foldE s.data.toList = F at *
    generalize escE s.data.toList = E at *
    generalize unfoldE s.data.toList = U at *
    have qF : ((str F).toList == (str F).toList) = true := beq_self_eq_true _
    have qE : ((str E).toList == (str E).toList) = true := beq_self_eq_true _
    clear hs hbig
    obtain ⟨T, b, hA, hR, qT, hb⟩ : ∃ (T : Tx) (b : Bool), unA o = .tuple #[.string (str T), .int .i64 (if b then 0 else 14)] ∧ unR o = .tuple #[.string (str T), .bool b] ∧ ((str T).toList == (str T).toList) = true ∧ True := by
      cases o with
      | none => exact ⟨[], false, rfl, rfl, beq_self_eq_true _, trivial⟩
      | some t => exact ⟨t, true, rfl, rfl, beq_self_eq_true _, trivial⟩
    rw [hA] at C1
    rw [hR] at C2
    clear hA hR hb
    cases b
    all_goals
      simp only [if_true, Bool.false_eq_true, if_false] at C1
      go_enter Tryd.func3, Tryd.ntmps3
      go_wp2_with fail
      refine (HK.out).mono ?_
      rintro e w1 ⟨rfl, hb1⟩
      have HB := hide hb1
      clear hb1
      go_wp2_with fail
      refine (C1.out _ (HE.out.keep HB.out)).mono ?_
      rintro e w2 ⟨rfl, hb2⟩
      replace HB := hide (andthen HB.out hb2)
      clear hb2
      go_wp2_with fail
      refine (C2.out _).mono ?_
      rintro e w3 ⟨rfl, hb3⟩
      replace HB := hide (andthen HB.out hb3)
      clear hb3
      go_wp2_with fail
      refine (C3.out _).mono ?_
      rintro e w4 ⟨rfl, hb4⟩
      replace HB := hide (andthen HB.out hb4)
      clear hb4
      go_wp2_with fail
      refine (C4.out _).mono ?_
      rintro e w5 ⟨rfl, hb5⟩
      replace HB := hide (andthen HB.out hb5)
      clear hb5
      go_wp2_with fail
      refine (C5.out _ (HE.out.keep HB.out)).mono ?_
      rintro e w6 ⟨v6, rfl, hown6, hb6⟩
      obtain ⟨A6, c6, rfl, hr6, _⟩ := OwnS.row hown6
      have HR6 := hide hr6
      replace HB := hide (andthen HB.out hb6)
      clear hb6 hown6 hr6
      go_wp2_with fail
      refine (C6.out _).mono ?_
      rintro e w7 ⟨v7, rfl, hown7, hb7⟩
      obtain ⟨A7, c7, rfl, hr7, _⟩ := OwnS.row hown7
      have HS := hide (same_any A6 A7 _ _ c6 c7 U U w7 (HR6.out.keep hb7) hr7 rfl rfl HUL.out)
      rw [show decide (U = U) = true from decide_eq_true rfl] at HS
      replace HB := hide (andthen HB.out hb7)
      clear hb7 hown7 hr7
      go_wp2_with fail
      refine (HS.out).mono ?_
      rintro e w8 ⟨rfl, hb8⟩
      replace HB := hide (andthen HB.out hb8)
      clear hb8
      go_wp2_with fail
      refine (C7.out _).mono ?_
      rintro e w9 ⟨rfl, hb9⟩
      replace HB := hide (andthen HB.out hb9)
      clear hb9
      go_wp2_with fail
      refine (C8.out _).mono ?_
      rintro e w10 ⟨rfl, hb10⟩
      replace HB := hide (andthen HB.out hb10)
      clear hb10
      go_wp2_with fail
      go_ret
      exact ⟨rfl, HB.out⟩

end Go.Proofs.YtpicfpadednnoaaDoor

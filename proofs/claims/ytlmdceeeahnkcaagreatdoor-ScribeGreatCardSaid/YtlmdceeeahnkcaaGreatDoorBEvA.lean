/- Walks of package event, the smallest: between, bytes of words, minutes, rooms, lists that ascend. -/
import Derived.Test.YtlmdceeeahnkcaaGreatDoorBW6
import Derived.Test.YtlmdceeeahnkcaaGreatDoorBM1
namespace Go.Proofs.YtlmdceeeahnkcaaGreatDoor
open Go.RowKit Rul Rt Go.Sort

set_option maxHeartbeats 400000 in
theorem ebtw_any (a x b : Int) (w : World) :
    Calls Tryz.prog 111 #[.int .i64 a, .int .i64 x, .int .i64 b] w fun e w' => e = .returned (.bool (btw a x b)) ∧ w = w' := by
  by_cases h : a ≤ x
  · have e := hide (show btw a x b = decide (x ≤ b) by simp [btw, h])
    go_enter Tryz.func111, Tryz.ntmps111
    go_wp2_with fail
    go_ret
    exact ⟨ret_bool (by rw [e.out]), rfl⟩
  · have e := hide (show btw a x b = false by simp [btw, h])
    have hd : decide (a ≤ x) = false := by simpa using h
    go_enter Tryz.func111, Tryz.ntmps111
    go_wp2_with fail
    go_ret
    exact ⟨ret_bool (by rw [e.out]), rfl⟩
theorem ebtw_at (a x b : Int) (c : Bool) (w : World) (h : btw a x b = c) :
    Calls Tryz.prog 111 #[.int .i64 a, .int .i64 x, .int .i64 b] w fun e w' => e = .returned (.bool c) ∧ w = w' := by
  subst h; exact ebtw_any a x b w
set_option maxHeartbeats 400000 in
theorem ybtw_any (a x b : Int) (w : World) :
    Calls Tryz.prog 159 #[.int .u8 a, .int .u8 x, .int .u8 b] w fun e w' => e = .returned (.bool (btw a x b)) ∧ w = w' := by
  by_cases h : a ≤ x
  · have e := hide (show btw a x b = decide (x ≤ b) by simp [btw, h])
    go_enter Tryz.func159, Tryz.ntmps159
    go_wp2_with fail
    go_ret
    exact ⟨ret_bool (by rw [e.out]), rfl⟩
  · have e := hide (show btw a x b = false by simp [btw, h])
    have hd : decide (a ≤ x) = false := by simpa using h
    go_enter Tryz.func159, Tryz.ntmps159
    go_wp2_with fail
    go_ret
    exact ⟨ret_bool (by rw [e.out]), rfl⟩
theorem ybtw_at (a x b : Int) (c : Bool) (w : World) (h : btw a x b = c) :
    Calls Tryz.prog 159 #[.int .u8 a, .int .u8 x, .int .u8 b] w fun e w' => e = .returned (.bool c) ∧ w = w' := by
  subst h; exact ybtw_any a x b w

set_option maxHeartbeats 400000 in
theorem inUID_any (C : Int) (w : World) :
    Calls Tryz.prog 138 #[.int .u8 C] w fun e w' => e = .returned (.bool (Ev.uidI C)) ∧ w = w' := by
  cases h1 : btw 97 C 122
  · cases h2 : btw 65 C 90
    · cases h3 : btw 48 C 57
      · have e := hide (show Ev.uidI C = (C == 45) by unfold Ev.uidI; rw [h1, h2, h3]; rfl)
        have H1 := hide h1
        have H2 := hide h2
        have H3 := hide h3
        clear h1 h2 h3
        go_enter Tryz.func138, Tryz.ntmps138
        go_wp2_with fail
        refine (ybtw_at _ _ _ _ _ H1.out).mono ?_
        rintro e w' ⟨rfl, rfl⟩
        go_wp2_with fail
        refine (ybtw_at _ _ _ _ _ H2.out).mono ?_
        rintro e w' ⟨rfl, rfl⟩
        go_wp2_with fail
        refine (ybtw_at _ _ _ _ _ H3.out).mono ?_
        rintro e w' ⟨rfl, rfl⟩
        go_wp2_with fail
        go_ret
        exact ⟨ret_bool (by rw [e.out]), rfl⟩
      · have e := hide (show Ev.uidI C = true by unfold Ev.uidI; rw [h1, h2, h3]; rfl)
        have H1 := hide h1
        have H2 := hide h2
        have H3 := hide h3
        clear h1 h2 h3
        go_enter Tryz.func138, Tryz.ntmps138
        go_wp2_with fail
        refine (ybtw_at _ _ _ _ _ H1.out).mono ?_
        rintro e w' ⟨rfl, rfl⟩
        go_wp2_with fail
        refine (ybtw_at _ _ _ _ _ H2.out).mono ?_
        rintro e w' ⟨rfl, rfl⟩
        go_wp2_with fail
        refine (ybtw_at _ _ _ _ _ H3.out).mono ?_
        rintro e w' ⟨rfl, rfl⟩
        go_wp2_with fail
        go_ret
        exact ⟨ret_bool (by rw [e.out]), rfl⟩
    · have e := hide (show Ev.uidI C = true by unfold Ev.uidI; rw [h1, h2]; rfl)
      have H1 := hide h1
      have H2 := hide h2
      clear h1 h2
      go_enter Tryz.func138, Tryz.ntmps138
      go_wp2_with fail
      refine (ybtw_at _ _ _ _ _ H1.out).mono ?_
      rintro e w' ⟨rfl, rfl⟩
      go_wp2_with fail
      refine (ybtw_at _ _ _ _ _ H2.out).mono ?_
      rintro e w' ⟨rfl, rfl⟩
      go_wp2_with fail
      go_ret
      exact ⟨ret_bool (by rw [e.out]), rfl⟩
  · have e := hide (show Ev.uidI C = true by unfold Ev.uidI; rw [h1]; rfl)
    have H1 := hide h1
    clear h1
    go_enter Tryz.func138, Tryz.ntmps138
    go_wp2_with fail
    refine (ybtw_at _ _ _ _ _ H1.out).mono ?_
    rintro e w' ⟨rfl, rfl⟩
    go_wp2_with fail
    go_ret
    exact ⟨ret_bool (by rw [e.out]), rfl⟩
theorem inUID_at (c : UInt8) (b : Bool) (w : World) (h : Ev.uidC c = b) :
    Calls Tryz.prog 138 #[.int .u8 (c.toNat : Int)] w fun e w' => e = .returned (.bool b) ∧ w = w' := by
  subst h; exact inUID_any _ w
set_option maxHeartbeats 400000 in
theorem inText_any (C : Int) (w : World) :
    Calls Tryz.prog 139 #[.int .u8 C] w fun e w' => e = .returned (.bool (Ev.textI C)) ∧ w = w' := by
  cases h1 : btw 32 C 126
  · have e := hide (show Ev.textI C = (C == 10) by unfold Ev.textI; rw [h1]; rfl)
    have H1 := hide h1
    clear h1
    go_enter Tryz.func139, Tryz.ntmps139
    go_wp2_with fail
    refine (ybtw_at _ _ _ _ _ H1.out).mono ?_
    rintro e w' ⟨rfl, rfl⟩
    go_wp2_with fail
    go_ret
    exact ⟨ret_bool (by rw [e.out]), rfl⟩
  · have e := hide (show Ev.textI C = true by unfold Ev.textI; rw [h1]; rfl)
    have H1 := hide h1
    clear h1
    go_enter Tryz.func139, Tryz.ntmps139
    go_wp2_with fail
    refine (ybtw_at _ _ _ _ _ H1.out).mono ?_
    rintro e w' ⟨rfl, rfl⟩
    go_wp2_with fail
    go_ret
    exact ⟨ret_bool (by rw [e.out]), rfl⟩
theorem inText_at (c : UInt8) (b : Bool) (w : World) (h : Ev.textC c = b) :
    Calls Tryz.prog 139 #[.int .u8 (c.toNat : Int)] w fun e w' => e = .returned (.bool b) ∧ w = w' := by
  subst h; exact inText_any _ w

theorem byte_listE (s : ByteArray) (k : Nat) (h : k < s.size) (h2 : k < s.data.toList.length) : s.data.toList[k]'h2 = s[k]'h := by
  simp [ByteArray.getElem_eq_getElem_data]
theorem all_noE {α : Type} (p : α → Bool) (s : List α) (k : Nat) (h : k < s.length) (hc : p s[k] = false) : s.all p = false := by
  rw [Bool.eq_false_iff]; intro g
  rw [List.all_eq_true] at g
  have := g s[k] (List.getElem_mem h)
  rw [hc] at this; cases this
theorem all_moreE {α : Type} (p : α → Bool) (s : List α) (k : Nat) (h : k < s.length) (hk : (s.take k).all p = true) (hc : p s[k] = true) : (s.take (k + 1)).all p = true := by
  rw [List.take_succ_eq_append_getElem h, List.all_append, hk, List.all_cons, hc]; rfl

set_option maxRecDepth 100000 in
set_option maxHeartbeats 400000 in
theorem allU_any (s : ByteArray) (w : World) (hs : s.size ≤ 100000) :
    Calls Tryz.prog 137 #[.func (.func 138) #[] #[], .string s] w fun e w' => e = .returned (.bool (s.data.toList.all Ev.uidC)) ∧ w = w' := by
  go_enter Tryz.func137, Tryz.ntmps137
  go_wp2_with fail
  go_loopw [8] (fun i wr => ∃ k : Nat, k ≤ s.size ∧ i = .int .i64 k ∧ Hid ((s.data.toList.take k).all Ev.uidC = true) ∧ wr = w) (fun i _ => s.size - (intOf i).toNat)
  case atStart => exact ⟨0, Nat.zero_le _, rfl, hide rfl, rfl⟩
  case round =>
    obtain ⟨k, hk, rfl, HA, rfl⟩ := hrel
    by_cases hlt : k < s.size
    · have hlt1 : (k : Int) < (s.size : Int) := by omega
      have hk0 : (0 : Int) ≤ (k : Int) := by omega
      obtain ⟨c, hc⟩ : ∃ c, s[k]'hlt = c := ⟨_, rfl⟩
      have hkl : k < s.data.toList.length := by rw [len_of]; exact hlt
      have hcl : s.data.toList[k] = c := by rw [byte_listE s k hlt, hc]
      cases hb : Ev.uidC c with
      | true =>
        have HN := hide (all_moreE Ev.uidC s.data.toList k hkl HA.out (by rw [hcl]; exact hb))
        have HI := hide (fun w => inUID_at c true w hb)
        clear hb hcl hkl
        go_wp2_with fail
        refine (HI.out _).mono ?_
        rintro e w' ⟨rfl, rfl⟩
        go_wp2_with fail
        go_roundw
        case rel => exact ⟨k + 1, by omega, by go_num, HN, by trivial⟩
        case measure => simp [intOf]; omega
      | false =>
        have HF := hide (all_noE Ev.uidC s.data.toList k hkl (by rw [hcl]; exact hb))
        have HI := hide (fun w => inUID_at c false w hb)
        clear hb hcl hkl
        go_wp2_with fail
        refine (HI.out _).mono ?_
        rintro e w' ⟨rfl, rfl⟩
        go_wp2_with fail
        go_ret
        exact ⟨ret_bool HF.out.symm, rfl⟩
    · obtain rfl : k = s.size := by omega
      have HF : Hid (s.data.toList.all Ev.uidC = true) := hide (by
        have h := HA.out
        rw [List.take_of_length_le (by rw [len_of]; omega)] at h
        exact h)
      go_wp2_with fail
      go_ret
      exact ⟨ret_bool HF.out.symm, rfl⟩
set_option maxRecDepth 100000 in
set_option maxHeartbeats 400000 in
theorem allT_any (s : ByteArray) (w : World) (hs : s.size ≤ 100000) :
    Calls Tryz.prog 137 #[.func (.func 139) #[] #[], .string s] w fun e w' => e = .returned (.bool (s.data.toList.all Ev.textC)) ∧ w = w' := by
  go_enter Tryz.func137, Tryz.ntmps137
  go_wp2_with fail
  go_loopw [8] (fun i wr => ∃ k : Nat, k ≤ s.size ∧ i = .int .i64 k ∧ Hid ((s.data.toList.take k).all Ev.textC = true) ∧ wr = w) (fun i _ => s.size - (intOf i).toNat)
  case atStart => exact ⟨0, Nat.zero_le _, rfl, hide rfl, rfl⟩
  case round =>
    obtain ⟨k, hk, rfl, HA, rfl⟩ := hrel
    by_cases hlt : k < s.size
    · have hlt1 : (k : Int) < (s.size : Int) := by omega
      have hk0 : (0 : Int) ≤ (k : Int) := by omega
      obtain ⟨c, hc⟩ : ∃ c, s[k]'hlt = c := ⟨_, rfl⟩
      have hkl : k < s.data.toList.length := by rw [len_of]; exact hlt
      have hcl : s.data.toList[k] = c := by rw [byte_listE s k hlt, hc]
      cases hb : Ev.textC c with
      | true =>
        have HN := hide (all_moreE Ev.textC s.data.toList k hkl HA.out (by rw [hcl]; exact hb))
        have HI := hide (fun w => inText_at c true w hb)
        clear hb hcl hkl
        go_wp2_with fail
        refine (HI.out _).mono ?_
        rintro e w' ⟨rfl, rfl⟩
        go_wp2_with fail
        go_roundw
        case rel => exact ⟨k + 1, by omega, by go_num, HN, by trivial⟩
        case measure => simp [intOf]; omega
      | false =>
        have HF := hide (all_noE Ev.textC s.data.toList k hkl (by rw [hcl]; exact hb))
        have HI := hide (fun w => inText_at c false w hb)
        clear hb hcl hkl
        go_wp2_with fail
        refine (HI.out _).mono ?_
        rintro e w' ⟨rfl, rfl⟩
        go_wp2_with fail
        go_ret
        exact ⟨ret_bool HF.out.symm, rfl⟩
    · obtain rfl : k = s.size := by omega
      have HF : Hid (s.data.toList.all Ev.textC = true) := hide (by
        have h := HA.out
        rw [List.take_of_length_le (by rw [len_of]; omega)] at h
        exact h)
      go_wp2_with fail
      go_ret
      exact ⟨ret_bool HF.out.symm, rfl⟩
set_option maxHeartbeats 400000 in
theorem isUID_any (s : ByteArray) (w : World) (hs : s.size ≤ 100000) :
    Calls Tryz.prog 103 #[.string s] w fun e w' => e = .returned (.bool (Ev.uidB s.data.toList)) ∧ w = w' := by
  by_cases h : 1 ≤ s.size ∧ s.size ≤ 12
  · have E : Hid (Ev.uidB s.data.toList = s.data.toList.all Ev.uidC) := hide (by unfold Ev.uidB; rw [len_of, decide_eq_true h, Bool.true_and])
    have H := hide (fun w => ebtw_at 1 s.size 12 true w (by rw [btw_iff]; omega))
    have HA := hide (fun w => allU_any s w hs)
    generalize s.data.toList.all Ev.uidC = B at *
    clear h
    go_enter Tryz.func103, Tryz.ntmps103
    go_wp2_with fail
    refine (H.out _).mono ?_
    rintro e w' ⟨rfl, rfl⟩
    go_wp2_with fail
    refine (HA.out _).mono ?_
    rintro e w' ⟨rfl, rfl⟩
    go_wp2_with fail
    go_ret
    exact ⟨ret_bool (by rw [E.out]), rfl⟩
  · have E : Hid (Ev.uidB s.data.toList = false) := hide (by unfold Ev.uidB; rw [len_of, decide_eq_false h, Bool.false_and])
    have H := hide (fun w => ebtw_at 1 s.size 12 false w (by rw [btw_not]; omega))
    clear h
    go_enter Tryz.func103, Tryz.ntmps103
    go_wp2_with fail
    refine (H.out _).mono ?_
    rintro e w' ⟨rfl, rfl⟩
    go_wp2_with fail
    go_ret
    exact ⟨ret_bool (by rw [E.out]), rfl⟩
theorem isUID_at (s : ByteArray) (b : Bool) (w : World) (hs : s.size ≤ 100000) (h : Ev.uidB s.data.toList = b) :
    Calls Tryz.prog 103 #[.string s] w fun e w' => e = .returned (.bool b) ∧ w = w' := by
  subst h; exact isUID_any s w hs
set_option maxHeartbeats 400000 in
theorem isText_any (s : ByteArray) (w : World) (hs : s.size ≤ 100000) :
    Calls Tryz.prog 104 #[.string s] w fun e w' => e = .returned (.bool (Ev.textB s.data.toList)) ∧ w = w' := by
  by_cases h : s.size ≤ 40
  · have E : Hid (Ev.textB s.data.toList = s.data.toList.all Ev.textC) := hide (by unfold Ev.textB; rw [len_of, decide_eq_true h, Bool.true_and])
    have d : decide ((s.size : Int) ≤ 40) = true := decide_eq_true (by omega)
    have HA := hide (fun w => allT_any s w hs)
    generalize s.data.toList.all Ev.textC = B at *
    clear h
    go_enter Tryz.func104, Tryz.ntmps104
    go_wp2_with fail
    refine (HA.out _).mono ?_
    rintro e w' ⟨rfl, rfl⟩
    go_wp2_with fail
    go_ret
    exact ⟨ret_bool (by rw [E.out]), rfl⟩
  · have E : Hid (Ev.textB s.data.toList = false) := hide (by unfold Ev.textB; rw [len_of, decide_eq_false h, Bool.false_and])
    have d : decide ((s.size : Int) ≤ 40) = false := decide_eq_false (by omega)
    clear h
    go_enter Tryz.func104, Tryz.ntmps104
    go_wp2_with fail
    go_ret
    exact ⟨ret_bool (by rw [E.out]), rfl⟩
theorem isText_at (s : ByteArray) (b : Bool) (w : World) (hs : s.size ≤ 100000) (h : Ev.textB s.data.toList = b) :
    Calls Tryz.prog 104 #[.string s] w fun e w' => e = .returned (.bool b) ∧ w = w' := by
  subst h; exact isText_any s w hs
set_option maxHeartbeats 400000 in
theorem isLong_any (n : Int) (w : World) :
    Calls Tryz.prog 106 #[.int .i64 n] w fun e w' => e = .returned (.bool (Ev.lgB n)) ∧ w = w' := by
  have H := hide (fun w => ebtw_at 1 n 10080 (Ev.lgB n) w rfl)
  go_enter Tryz.func106, Tryz.ntmps106
  go_wp2_with fail
  refine (H.out _).mono ?_
  rintro e w' ⟨rfl, rfl⟩
  go_wp2_with fail
  go_ret
  exact ⟨rfl, rfl⟩
set_option maxHeartbeats 400000 in
theorem isRoom_any (n : Int) (w : World) :
    Calls Tryz.prog 113 #[.int .i64 n] w (Ans w (.bool (Ev.roomB n))) := by
  have H := hide (fun w => ebtw_at 0 n 7 (Ev.roomB n) w rfl)
  go_enter Tryz.func113, Tryz.ntmps113
  go_wp2_with fail
  refine (H.out _).mono ?_
  rintro e w' ⟨rfl, rfl⟩
  go_wp2_with fail
  go_ret
  exact ⟨rfl, start _⟩
set_option maxHeartbeats 400000 in
theorem isMinute_any (n : Int) (w : World) :
    Calls Tryz.prog 105 #[.int .i64 n] w (Ans w (.bool (Ev.minB n))) := by
  by_cases h : 0 ≤ n ∧ n < 52596000
  · have E : Hid (Ev.minB n = true) := hide ((Ev.minB_iff n).2 h)
    have H := hide (fun w => Clock_yes n w h.1 h.2)
    clear h
    go_enter Tryz.func105, Tryz.ntmps105
    go_wp2_with fail
    refine (H.out _).mono ?_
    rintro e w1 ⟨rfl, hb⟩
    have HB := hide (more hb (.cells #[.int .i64 (Cal.yOf (n / 1440)), .int .i64 (Cal.mOf (n / 1440)), .int .i64 (Cal.dOf (n / 1440))] 172))
    clear hb
    go_wp2_with fail
    go_ret
    exact ⟨ret_bool (by rw [E.out]), by first | exact HB.out | skip⟩
  · have E : Hid (Ev.minB n = false) := hide (by rw [← Bool.not_eq_true, Ev.minB_iff]; exact h)
    have H := hide (fun w => Clock_no n w (by omega))
    clear h
    go_enter Tryz.func105, Tryz.ntmps105
    go_wp2_with fail
    refine (H.out _).mono ?_
    rintro e w1 ⟨rfl, hb⟩
    have HB := hide (more hb (.cells #[.int .i64 0, .int .i64 0, .int .i64 0] 172))
    clear hb
    go_wp2_with fail
    go_ret
    exact ⟨ret_bool (by rw [E.out]), by first | exact HB.out | skip⟩

theorem isRoom_at (n : Int) (b : Bool) (w : World) (h : Ev.roomB n = b) : Calls Tryz.prog 113 #[.int .i64 n] w (Ans w (.bool b)) := by subst h; exact isRoom_any n w
set_option maxRecDepth 100000 in
set_option maxHeartbeats 2000000 in
theorem ascR_any (A : Option Addr) (n c : Nat) (l : List Int) (w : World) (hl : RowI w A l) (hn : n = l.length) (hsz : l.length ≤ 100000) :
    Calls Tryz.prog 112 #[.func (.func 113) #[] #[], .slice A n c] w (Ans w (.bool (ascB Ev.roomB inLt 0 l))) := by
  subst hn
  by_cases hnil : l = []
  · subst hnil
    go_enter Tryz.func112, Tryz.ntmps112
    go_wp2_with fail
    refine wp_loop_rounds 1 ?_
    rw [rounds_succ]
    go_wp2_with fail
    go_ret
    exact ⟨rfl, start _⟩
  · obtain ⟨b1, o1, rfl, hb1, hc1⟩ := hl hnil
    have HC1 := hide hc1
    clear hl hc1 hnil
    go_enter Tryz.func112, Tryz.ntmps112
    go_wp2_with fail
    go_loopw [9] (fun i wr => ∃ j : Nat, j ≤ l.length ∧ i = .int .i64 j ∧ (∀ i, i < j → stepB Ev.roomB inLt 0 l i = true) ∧ Below w.heap.size w wr) (fun i _ => l.length - (intOf i).toNat)
    case atStart => exact ⟨0, Nat.zero_le _, rfl, fun i h => absurd h (Nat.not_lt_zero _), start _⟩
    case round =>
      obtain ⟨j, hj, rfl, heq, hbw⟩ := hrel
      have HE := hide heq
      clear heq
      by_cases hlt : j < l.length
      · have hi0 : (0 : Int) ≤ (j : Int) := by omega
        have hi1 : (j : Int) < (l.length : Int) := by omega
        cases hq : Ev.roomB l[j]
        · have p1 : wr.cell? ⟨b1, o1 + j, none⟩ = some (.int .i64 l[j]) := (hbw.cell (p := ⟨b1, _, none⟩) hb1).trans (by first | exact HC1.out j hlt | simpa using HC1.out j hlt)
          have HN := hide (ascB_no Ev.roomB inLt 0 l j hlt (stepB_p _ _ _ _ _ hlt hq))
          have HQ := hide (fun w => isRoom_at l[j] false w hq)
          clear hq
          go_wp2_with fail
          refine (HQ.out _).mono ?_
          rintro e w1 ⟨rfl, hb2⟩
          replace hbw := hbw.trans (hb2.mono hbw.size)
          clear hb2
          go_wp2_with fail
          go_ret
          exact ⟨ret_bool (by rw [HN.out]), hbw⟩
        · have HQ := hide (fun w => isRoom_at l[j] true w hq)
          rcases Nat.eq_zero_or_pos j with hz | hz
          · subst hz
            have p1 : wr.cell? ⟨b1, o1, none⟩ = some (.int .i64 l[0]) := (hbw.cell (p := ⟨b1, _, none⟩) hb1).trans (by first | exact HC1.out 0 hlt | simpa using HC1.out 0 hlt)
            have HN := hide (all_step Ev.roomB inLt 0 l 0 HE.out (by rw [stepB_0 _ _ _ _ hlt]; exact hq))
            clear hq
            have g0 : ¬ (0 : Int) < ((0 : Nat) : Int) := by omega
            have g1 : decide ((0 : Int) < ((0 : Nat) : Int)) = false := rfl
            go_wp2_with fail
            refine (HQ.out _).mono ?_
            rintro e w1 ⟨rfl, hb2⟩
            replace hbw := hbw.trans (hb2.mono hbw.size)
            clear hb2
            go_wp2_with fail
            go_roundw
            case rel => exact ⟨1, by omega, by go_num, HN.out, hbw⟩
            case measure => simp [intOf]; omega
          · obtain ⟨m, rfl⟩ : ∃ m, j = m + 1 := ⟨j - 1, by omega⟩
            have hlm : m < l.length := Nat.lt_of_succ_lt hlt
            have p1 : wr.cell? ⟨b1, o1 + (m + 1), none⟩ = some (.int .i64 l[(m + 1)]) := (hbw.cell (p := ⟨b1, _, none⟩) hb1).trans (by first | exact HC1.out (m + 1) hlt | simpa using HC1.out (m + 1) hlt)
            have p0 : wr.cell? ⟨b1, o1 + m, none⟩ = some (.int .i64 l[m]) := (hbw.cell (p := ⟨b1, _, none⟩) hb1).trans (by first | exact HC1.out m hlm | simpa using HC1.out m hlm)
            have g0 : (0 : Int) < ((m + 1 : Nat) : Int) := by omega
            have g1 : decide ((0 : Int) < ((m + 1 : Nat) : Int)) = true := decide_eq_true g0
            have g2 : ((m + 1 : Nat) : Int) - 1 = (m : Int) := by omega
            have g3 : (0 : Int) ≤ (m : Int) := by omega
            have g4 : (m : Int) < (l.length : Int) := by omega
            have hs := stepB_succ Ev.roomB inLt 0 l m hlt
            rw [hq, Bool.true_and] at hs
            clear hq
            cases hc : inLt l[m] l[m + 1]
            · have hd : decide (l[m + 1] ≤ l[m]) = true := by unfold inLt at hc; rw [decide_eq_false_iff_not] at hc; exact decide_eq_true (by omega)
              have hd2 : l[m + 1] ≤ l[m] := of_decide_eq_true hd
              have HN := hide (ascB_no Ev.roomB inLt 0 l (m + 1) hlt (by rw [hs, hc]))
              clear hs hc
              go_wp2_with fail
              refine (HQ.out _).mono ?_
              rintro e w1 ⟨rfl, hb2⟩
              replace hbw := hbw.trans (hb2.mono hbw.size)
              have q0 := cell_keep hb2 p0
              clear hb2
              go_wp2_with fail
              go_ret
              exact ⟨ret_bool (by rw [HN.out]), hbw⟩
            · have hd : decide (l[m + 1] ≤ l[m]) = false := by unfold inLt at hc; rw [decide_eq_true_eq] at hc; exact decide_eq_false (by omega)
              have hd2 : ¬ l[m + 1] ≤ l[m] := of_decide_eq_false hd
              have HN := hide (all_step Ev.roomB inLt 0 l (m + 1) HE.out (by rw [hs, hc]))
              clear hs hc
              go_wp2_with fail
              refine (HQ.out _).mono ?_
              rintro e w1 ⟨rfl, hb2⟩
              replace hbw := hbw.trans (hb2.mono hbw.size)
              have q0 := cell_keep hb2 p0
              clear hb2
              go_wp2_with fail
              go_roundw
              case rel => exact ⟨m + 1 + 1, by omega, by go_num, HN.out, hbw⟩
              case measure => simp [intOf]; omega
      · obtain rfl : j = l.length := by omega
        have HF := hide ((ascB_iff Ev.roomB inLt 0 l).2 HE.out)
        go_wp2_with fail
        go_ret
        exact ⟨ret_bool (by rw [HF.out]), hbw⟩

theorem isMinute_at (n : Int) (b : Bool) (w : World) (h : Ev.minB n = b) : Calls Tryz.prog 105 #[.int .i64 n] w (Ans w (.bool b)) := by subst h; exact isMinute_any n w
set_option maxRecDepth 100000 in
set_option maxHeartbeats 2000000 in
theorem ascM_any (A : Option Addr) (n c : Nat) (l : List Int) (w : World) (hl : RowI w A l) (hn : n = l.length) (hsz : l.length ≤ 100000) :
    Calls Tryz.prog 112 #[.func (.func 105) #[] #[], .slice A n c] w (Ans w (.bool (ascB Ev.minB inLt 0 l))) := by
  subst hn
  by_cases hnil : l = []
  · subst hnil
    go_enter Tryz.func112, Tryz.ntmps112
    go_wp2_with fail
    refine wp_loop_rounds 1 ?_
    rw [rounds_succ]
    go_wp2_with fail
    go_ret
    exact ⟨rfl, start _⟩
  · obtain ⟨b1, o1, rfl, hb1, hc1⟩ := hl hnil
    have HC1 := hide hc1
    clear hl hc1 hnil
    go_enter Tryz.func112, Tryz.ntmps112
    go_wp2_with fail
    go_loopw [9] (fun i wr => ∃ j : Nat, j ≤ l.length ∧ i = .int .i64 j ∧ (∀ i, i < j → stepB Ev.minB inLt 0 l i = true) ∧ Below w.heap.size w wr) (fun i _ => l.length - (intOf i).toNat)
    case atStart => exact ⟨0, Nat.zero_le _, rfl, fun i h => absurd h (Nat.not_lt_zero _), start _⟩
    case round =>
      obtain ⟨j, hj, rfl, heq, hbw⟩ := hrel
      have HE := hide heq
      clear heq
      by_cases hlt : j < l.length
      · have hi0 : (0 : Int) ≤ (j : Int) := by omega
        have hi1 : (j : Int) < (l.length : Int) := by omega
        cases hq : Ev.minB l[j]
        · have p1 : wr.cell? ⟨b1, o1 + j, none⟩ = some (.int .i64 l[j]) := (hbw.cell (p := ⟨b1, _, none⟩) hb1).trans (by first | exact HC1.out j hlt | simpa using HC1.out j hlt)
          have HN := hide (ascB_no Ev.minB inLt 0 l j hlt (stepB_p _ _ _ _ _ hlt hq))
          have HQ := hide (fun w => isMinute_at l[j] false w hq)
          clear hq
          go_wp2_with fail
          refine (HQ.out _).mono ?_
          rintro e w1 ⟨rfl, hb2⟩
          replace hbw := hbw.trans (hb2.mono hbw.size)
          clear hb2
          go_wp2_with fail
          go_ret
          exact ⟨ret_bool (by rw [HN.out]), hbw⟩
        · have HQ := hide (fun w => isMinute_at l[j] true w hq)
          rcases Nat.eq_zero_or_pos j with hz | hz
          · subst hz
            have p1 : wr.cell? ⟨b1, o1, none⟩ = some (.int .i64 l[0]) := (hbw.cell (p := ⟨b1, _, none⟩) hb1).trans (by first | exact HC1.out 0 hlt | simpa using HC1.out 0 hlt)
            have HN := hide (all_step Ev.minB inLt 0 l 0 HE.out (by rw [stepB_0 _ _ _ _ hlt]; exact hq))
            clear hq
            have g0 : ¬ (0 : Int) < ((0 : Nat) : Int) := by omega
            have g1 : decide ((0 : Int) < ((0 : Nat) : Int)) = false := rfl
            go_wp2_with fail
            refine (HQ.out _).mono ?_
            rintro e w1 ⟨rfl, hb2⟩
            replace hbw := hbw.trans (hb2.mono hbw.size)
            clear hb2
            go_wp2_with fail
            go_roundw
            case rel => exact ⟨1, by omega, by go_num, HN.out, hbw⟩
            case measure => simp [intOf]; omega
          · obtain ⟨m, rfl⟩ : ∃ m, j = m + 1 := ⟨j - 1, by omega⟩
            have hlm : m < l.length := Nat.lt_of_succ_lt hlt
            have p1 : wr.cell? ⟨b1, o1 + (m + 1), none⟩ = some (.int .i64 l[(m + 1)]) := (hbw.cell (p := ⟨b1, _, none⟩) hb1).trans (by first | exact HC1.out (m + 1) hlt | simpa using HC1.out (m + 1) hlt)
            have p0 : wr.cell? ⟨b1, o1 + m, none⟩ = some (.int .i64 l[m]) := (hbw.cell (p := ⟨b1, _, none⟩) hb1).trans (by first | exact HC1.out m hlm | simpa using HC1.out m hlm)
            have g0 : (0 : Int) < ((m + 1 : Nat) : Int) := by omega
            have g1 : decide ((0 : Int) < ((m + 1 : Nat) : Int)) = true := decide_eq_true g0
            have g2 : ((m + 1 : Nat) : Int) - 1 = (m : Int) := by omega
            have g3 : (0 : Int) ≤ (m : Int) := by omega
            have g4 : (m : Int) < (l.length : Int) := by omega
            have hs := stepB_succ Ev.minB inLt 0 l m hlt
            rw [hq, Bool.true_and] at hs
            clear hq
            cases hc : inLt l[m] l[m + 1]
            · have hd : decide (l[m + 1] ≤ l[m]) = true := by unfold inLt at hc; rw [decide_eq_false_iff_not] at hc; exact decide_eq_true (by omega)
              have hd2 : l[m + 1] ≤ l[m] := of_decide_eq_true hd
              have HN := hide (ascB_no Ev.minB inLt 0 l (m + 1) hlt (by rw [hs, hc]))
              clear hs hc
              go_wp2_with fail
              refine (HQ.out _).mono ?_
              rintro e w1 ⟨rfl, hb2⟩
              replace hbw := hbw.trans (hb2.mono hbw.size)
              have q0 := cell_keep hb2 p0
              clear hb2
              go_wp2_with fail
              go_ret
              exact ⟨ret_bool (by rw [HN.out]), hbw⟩
            · have hd : decide (l[m + 1] ≤ l[m]) = false := by unfold inLt at hc; rw [decide_eq_true_eq] at hc; exact decide_eq_false (by omega)
              have hd2 : ¬ l[m + 1] ≤ l[m] := of_decide_eq_false hd
              have HN := hide (all_step Ev.minB inLt 0 l (m + 1) HE.out (by rw [hs, hc]))
              clear hs hc
              go_wp2_with fail
              refine (HQ.out _).mono ?_
              rintro e w1 ⟨rfl, hb2⟩
              replace hbw := hbw.trans (hb2.mono hbw.size)
              have q0 := cell_keep hb2 p0
              clear hb2
              go_wp2_with fail
              go_roundw
              case rel => exact ⟨m + 1 + 1, by omega, by go_num, HN.out, hbw⟩
              case measure => simp [intOf]; omega
      · obtain rfl : j = l.length := by omega
        have HF := hide ((ascB_iff Ev.minB inLt 0 l).2 HE.out)
        go_wp2_with fail
        go_ret
        exact ⟨ret_bool (by rw [HF.out]), hbw⟩

set_option maxHeartbeats 400000 in
theorem areRooms_any (A : Option Addr) (n c : Nat) (l : List Int) (w : World) (hl : RowI w A l) (hn : n = l.length) (hsz : l.length ≤ 100000) :
    Calls Tryz.prog 81 #[.slice A n c] w (Ans w (.bool (Ev.roomsB l))) := by
  subst hn
  by_cases h : 1 ≤ l.length ∧ l.length ≤ 4
  · have E : Hid (Ev.roomsB l = ascB Ev.roomB inLt 0 l) := hide (by unfold Ev.roomsB; rw [decide_eq_true h, Bool.true_and])
    have H := hide (fun w => ebtw_at 1 l.length 4 true w (by rw [btw_iff]; omega))
    have HA := hide (fun w hl => ascR_any A _ c l w hl rfl hsz)
    have HL := hide hl
    clear h hl
    go_enter Tryz.func81, Tryz.ntmps81
    go_wp2_with fail
    refine (H.out _).mono ?_
    rintro e w' ⟨rfl, rfl⟩
    go_wp2_with fail
    refine (HA.out _ HL.out).mono ?_
    rintro e w' ⟨rfl, hb⟩
    go_wp2_with fail
    go_ret
    exact ⟨ret_bool (by rw [E.out]), hb⟩
  · have E : Hid (Ev.roomsB l = false) := hide (by unfold Ev.roomsB; rw [decide_eq_false h, Bool.false_and])
    have H := hide (fun w => ebtw_at 1 l.length 4 false w (by rw [btw_not]; omega))
    clear h hl
    go_enter Tryz.func81, Tryz.ntmps81
    go_wp2_with fail
    refine (H.out _).mono ?_
    rintro e w' ⟨rfl, rfl⟩
    go_wp2_with fail
    go_ret
    exact ⟨ret_bool (by rw [E.out]), start _⟩
set_option maxHeartbeats 400000 in
theorem areExcept_any (A : Option Addr) (n c : Nat) (l : List Int) (w : World) (hl : RowI w A l) (hn : n = l.length) (hsz : l.length ≤ 100000) :
    Calls Tryz.prog 108 #[.slice A n c] w (Ans w (.bool (Ev.exB l))) := by
  subst hn
  by_cases h : l.length ≤ 12
  · have E : Hid (Ev.exB l = ascB Ev.minB inLt 0 l) := hide (by unfold Ev.exB listB; rw [decide_eq_true h, Bool.true_and])
    have d : decide ((l.length : Int) ≤ 12) = true := decide_eq_true (by omega)
    have HA := hide (fun w hl => ascM_any A _ c l w hl rfl hsz)
    have HL := hide hl
    clear h hl
    go_enter Tryz.func108, Tryz.ntmps108
    go_wp2_with fail
    refine (HA.out _ HL.out).mono ?_
    rintro e w' ⟨rfl, hb⟩
    go_wp2_with fail
    go_ret
    exact ⟨ret_bool (by rw [E.out]), hb⟩
  · have E : Hid (Ev.exB l = false) := hide (by unfold Ev.exB listB; rw [decide_eq_false h, Bool.false_and])
    have d : decide ((l.length : Int) ≤ 12) = false := decide_eq_false (by omega)
    clear h hl
    go_enter Tryz.func108, Tryz.ntmps108
    go_wp2_with fail
    go_ret
    exact ⟨ret_bool (by rw [E.out]), start _⟩
theorem areExcept_at (A : Option Addr) (n c : Nat) (l : List Int) (b : Bool) (w : World) (hl : RowI w A l) (hn : n = l.length) (hsz : l.length ≤ 100000) (h : Ev.exB l = b) :
    Calls Tryz.prog 108 #[.slice A n c] w (Ans w (.bool b)) := by subst h; exact areExcept_any A n c l w hl hn hsz

end Go.Proofs.YtlmdceeeahnkcaaGreatDoor

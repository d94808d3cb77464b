/- EvRA; EvRB of the recipes, what is needed of them. -/
import Derived.Deep.QuietTactic
import Derived.BigQuiet
import Derived.Test.YtlmdceeeahnkcaaGreatDoorBW9
import Derived.Test.YtlmdceeeahnkcaaGreatDoorBW8
import Derived.Test.YtlmdceeeahnkcaaGreatDoorBM1
namespace Go.Proofs.YtlmdceeeahnkcaaGreatDoor
open Go.RowKit Rul Rt Go.Sort

theorem ev_uidI (x : Int) : Ev.uidI x = true ↔ 97 ≤ x ∧ x ≤ 122 ∨ 65 ≤ x ∧ x ≤ 90 ∨ 48 ≤ x ∧ x ≤ 57 ∨ x = 45 := by
  unfold Ev.uidI; simp only [Bool.or_eq_true, btw_iff, beq_iff_eq]
set_option maxRecDepth 100000 in
set_option maxHeartbeats 2000000 in
theorem ruid_any (s : ByteArray) (w : World) (hs : s.size ≤ 100000) :
    Calls Tryz.prog 48 #[.string s] w fun e w' => e = .returned (.bool (Ev.uidB s.data.toList)) ∧ w = w' := by
  go_enter Tryz.func48, Tryz.ntmps48
  go_wp2_with fail
  go_loopw [3] (fun i wr => ∃ k : Nat, k ≤ s.size ∧ i = .int .i64 k ∧ Hid ((s.data.toList.take k).all Ev.uidC = true) ∧ wr = w) (fun i _ => s.size - (intOf i).toNat)
  case atStart => exact ⟨0, Nat.zero_le _, rfl, hide rfl, rfl⟩
  case round =>
    obtain ⟨k, hk, rfl, HA, rfl⟩ := hrel
    by_cases hlt : k < s.size
    · have hlt1 : (k : Int) < (s.size : Int) := by omega
      have hk0 : (0 : Int) ≤ (k : Int) := by omega
      obtain ⟨c, hc⟩ : ∃ c, s[k]'hlt = c := ⟨_, rfl⟩
      have hkl : k < s.data.toList.length := by rw [len_of]; exact hlt
      have hcl : s.data.toList[k] = c := by rw [byte_listE s k hlt, hc]
      have hyes : Ev.uidI (c.toNat : Int) = true → (s.data.toList.take (k + 1)).all Ev.uidC = true := fun hb => all_moreE Ev.uidC s.data.toList k hkl HA.out (by rw [hcl]; exact hb)
      have hno : Ev.uidI (c.toNat : Int) = false → Ev.uidB s.data.toList = false := fun hb => by
        unfold Ev.uidB
        rw [all_noE Ev.uidC s.data.toList k hkl (by rw [hcl]; exact hb), Bool.and_false]
      have h255 : c.toNat ≤ 255 := by have := c.toNat_lt; omega
      clear hcl hkl
      rcases (by omega : 0 ≤ (c.toNat : Int) ∧ (c.toNat : Int) ≤ 44 ∨ (c.toNat : Int) = 45 ∨ 46 ≤ (c.toNat : Int) ∧ (c.toNat : Int) ≤ 47 ∨ 48 ≤ (c.toNat : Int) ∧ (c.toNat : Int) ≤ 57 ∨ 58 ≤ (c.toNat : Int) ∧ (c.toNat : Int) ≤ 64 ∨ 65 ≤ (c.toNat : Int) ∧ (c.toNat : Int) ≤ 90 ∨ 91 ≤ (c.toNat : Int) ∧ (c.toNat : Int) ≤ 96 ∨ 97 ≤ (c.toNat : Int) ∧ (c.toNat : Int) ≤ 122 ∨ 123 ≤ (c.toNat : Int) ∧ (c.toNat : Int) ≤ 255) with h | h | h | h | h | h | h | h | h
      · have c0 : 0 ≤ (c.toNat : Int) := by omega
        have a65 : decide ((c.toNat : Int) < 65) = true := decide_eq_true (by omega)
        have a97 : decide ((c.toNat : Int) < 97) = true := decide_eq_true (by omega)
        have a48 : decide ((c.toNat : Int) < 48) = true := decide_eq_true (by omega)
        have b90 : decide (90 < (c.toNat : Int)) = false := decide_eq_false (by omega)
        have b122 : decide (122 < (c.toNat : Int)) = false := decide_eq_false (by omega)
        have b57 : decide (57 < (c.toNat : Int)) = false := decide_eq_false (by omega)
        have q : ((c.toNat : Int) == 45) = false := by rw [beq_eq_false_iff_ne]; omega
        have qn : ((c.toNat : Int) != 45) = true := by rw [bne, q]; rfl
        have HF := hide (hno (by rw [← Bool.not_eq_true]; intro g; have := (ev_uidI _).1 g; omega))
        clear hyes hno h
        go_wp2_with fail
        go_ret
        exact ⟨ret_bool HF.out.symm, rfl⟩
      · have c0 : 0 ≤ (c.toNat : Int) := by omega
        have a65 : decide ((c.toNat : Int) < 65) = true := decide_eq_true (by omega)
        have a97 : decide ((c.toNat : Int) < 97) = true := decide_eq_true (by omega)
        have a48 : decide ((c.toNat : Int) < 48) = true := decide_eq_true (by omega)
        have b90 : decide (90 < (c.toNat : Int)) = false := decide_eq_false (by omega)
        have b122 : decide (122 < (c.toNat : Int)) = false := decide_eq_false (by omega)
        have b57 : decide (57 < (c.toNat : Int)) = false := decide_eq_false (by omega)
        have q : ((c.toNat : Int) == 45) = true := by rw [beq_iff_eq]; exact h
        have qn : ((c.toNat : Int) != 45) = false := by rw [bne, q]; rfl
        have HN := hide (hyes ((ev_uidI _).2 (by omega)))
        clear hyes hno h
        go_wp2_with fail
        go_roundw
        case rel => exact ⟨k + 1, by omega, by go_num, HN, by trivial⟩
        case measure => simp [intOf]; omega
      · have c0 : 0 ≤ (c.toNat : Int) := by omega
        have a65 : decide ((c.toNat : Int) < 65) = true := decide_eq_true (by omega)
        have a97 : decide ((c.toNat : Int) < 97) = true := decide_eq_true (by omega)
        have a48 : decide ((c.toNat : Int) < 48) = true := decide_eq_true (by omega)
        have b90 : decide (90 < (c.toNat : Int)) = false := decide_eq_false (by omega)
        have b122 : decide (122 < (c.toNat : Int)) = false := decide_eq_false (by omega)
        have b57 : decide (57 < (c.toNat : Int)) = false := decide_eq_false (by omega)
        have q : ((c.toNat : Int) == 45) = false := by rw [beq_eq_false_iff_ne]; omega
        have qn : ((c.toNat : Int) != 45) = true := by rw [bne, q]; rfl
        have HF := hide (hno (by rw [← Bool.not_eq_true]; intro g; have := (ev_uidI _).1 g; omega))
        clear hyes hno h
        go_wp2_with fail
        go_ret
        exact ⟨ret_bool HF.out.symm, rfl⟩
      · have c0 : 0 ≤ (c.toNat : Int) := by omega
        have a65 : decide ((c.toNat : Int) < 65) = true := decide_eq_true (by omega)
        have a97 : decide ((c.toNat : Int) < 97) = true := decide_eq_true (by omega)
        have a48 : decide ((c.toNat : Int) < 48) = false := decide_eq_false (by omega)
        have b90 : decide (90 < (c.toNat : Int)) = false := decide_eq_false (by omega)
        have b122 : decide (122 < (c.toNat : Int)) = false := decide_eq_false (by omega)
        have b57 : decide (57 < (c.toNat : Int)) = false := decide_eq_false (by omega)
        have q : ((c.toNat : Int) == 45) = false := by rw [beq_eq_false_iff_ne]; omega
        have qn : ((c.toNat : Int) != 45) = true := by rw [bne, q]; rfl
        have HN := hide (hyes ((ev_uidI _).2 (by omega)))
        clear hyes hno h
        go_wp2_with fail
        go_roundw
        case rel => exact ⟨k + 1, by omega, by go_num, HN, by trivial⟩
        case measure => simp [intOf]; omega
      · have c0 : 0 ≤ (c.toNat : Int) := by omega
        have a65 : decide ((c.toNat : Int) < 65) = true := decide_eq_true (by omega)
        have a97 : decide ((c.toNat : Int) < 97) = true := decide_eq_true (by omega)
        have a48 : decide ((c.toNat : Int) < 48) = false := decide_eq_false (by omega)
        have b90 : decide (90 < (c.toNat : Int)) = false := decide_eq_false (by omega)
        have b122 : decide (122 < (c.toNat : Int)) = false := decide_eq_false (by omega)
        have b57 : decide (57 < (c.toNat : Int)) = true := decide_eq_true (by omega)
        have q : ((c.toNat : Int) == 45) = false := by rw [beq_eq_false_iff_ne]; omega
        have qn : ((c.toNat : Int) != 45) = true := by rw [bne, q]; rfl
        have HF := hide (hno (by rw [← Bool.not_eq_true]; intro g; have := (ev_uidI _).1 g; omega))
        clear hyes hno h
        go_wp2_with fail
        go_ret
        exact ⟨ret_bool HF.out.symm, rfl⟩
      · have c0 : 0 ≤ (c.toNat : Int) := by omega
        have a65 : decide ((c.toNat : Int) < 65) = false := decide_eq_false (by omega)
        have a97 : decide ((c.toNat : Int) < 97) = true := decide_eq_true (by omega)
        have a48 : decide ((c.toNat : Int) < 48) = false := decide_eq_false (by omega)
        have b90 : decide (90 < (c.toNat : Int)) = false := decide_eq_false (by omega)
        have b122 : decide (122 < (c.toNat : Int)) = false := decide_eq_false (by omega)
        have b57 : decide (57 < (c.toNat : Int)) = true := decide_eq_true (by omega)
        have q : ((c.toNat : Int) == 45) = false := by rw [beq_eq_false_iff_ne]; omega
        have qn : ((c.toNat : Int) != 45) = true := by rw [bne, q]; rfl
        have HN := hide (hyes ((ev_uidI _).2 (by omega)))
        clear hyes hno h
        go_wp2_with fail
        go_roundw
        case rel => exact ⟨k + 1, by omega, by go_num, HN, by trivial⟩
        case measure => simp [intOf]; omega
      · have c0 : 0 ≤ (c.toNat : Int) := by omega
        have a65 : decide ((c.toNat : Int) < 65) = false := decide_eq_false (by omega)
        have a97 : decide ((c.toNat : Int) < 97) = true := decide_eq_true (by omega)
        have a48 : decide ((c.toNat : Int) < 48) = false := decide_eq_false (by omega)
        have b90 : decide (90 < (c.toNat : Int)) = true := decide_eq_true (by omega)
        have b122 : decide (122 < (c.toNat : Int)) = false := decide_eq_false (by omega)
        have b57 : decide (57 < (c.toNat : Int)) = true := decide_eq_true (by omega)
        have q : ((c.toNat : Int) == 45) = false := by rw [beq_eq_false_iff_ne]; omega
        have qn : ((c.toNat : Int) != 45) = true := by rw [bne, q]; rfl
        have HF := hide (hno (by rw [← Bool.not_eq_true]; intro g; have := (ev_uidI _).1 g; omega))
        clear hyes hno h
        go_wp2_with fail
        go_ret
        exact ⟨ret_bool HF.out.symm, rfl⟩
      · have c0 : 0 ≤ (c.toNat : Int) := by omega
        have a65 : decide ((c.toNat : Int) < 65) = false := decide_eq_false (by omega)
        have a97 : decide ((c.toNat : Int) < 97) = false := decide_eq_false (by omega)
        have a48 : decide ((c.toNat : Int) < 48) = false := decide_eq_false (by omega)
        have b90 : decide (90 < (c.toNat : Int)) = true := decide_eq_true (by omega)
        have b122 : decide (122 < (c.toNat : Int)) = false := decide_eq_false (by omega)
        have b57 : decide (57 < (c.toNat : Int)) = true := decide_eq_true (by omega)
        have q : ((c.toNat : Int) == 45) = false := by rw [beq_eq_false_iff_ne]; omega
        have qn : ((c.toNat : Int) != 45) = true := by rw [bne, q]; rfl
        have HN := hide (hyes ((ev_uidI _).2 (by omega)))
        clear hyes hno h
        go_wp2_with fail
        go_roundw
        case rel => exact ⟨k + 1, by omega, by go_num, HN, by trivial⟩
        case measure => simp [intOf]; omega
      · have c0 : 0 ≤ (c.toNat : Int) := by omega
        have a65 : decide ((c.toNat : Int) < 65) = false := decide_eq_false (by omega)
        have a97 : decide ((c.toNat : Int) < 97) = false := decide_eq_false (by omega)
        have a48 : decide ((c.toNat : Int) < 48) = false := decide_eq_false (by omega)
        have b90 : decide (90 < (c.toNat : Int)) = true := decide_eq_true (by omega)
        have b122 : decide (122 < (c.toNat : Int)) = true := decide_eq_true (by omega)
        have b57 : decide (57 < (c.toNat : Int)) = true := decide_eq_true (by omega)
        have q : ((c.toNat : Int) == 45) = false := by rw [beq_eq_false_iff_ne]; omega
        have qn : ((c.toNat : Int) != 45) = true := by rw [bne, q]; rfl
        have HF := hide (hno (by rw [← Bool.not_eq_true]; intro g; have := (ev_uidI _).1 g; omega))
        clear hyes hno h
        go_wp2_with fail
        go_ret
        exact ⟨ret_bool HF.out.symm, rfl⟩
    · obtain rfl : k = s.size := by omega
      have HF : Hid (s.data.toList.all Ev.uidC = true) := hide (by
        have h := HA.out
        rw [List.take_of_length_le (by rw [len_of]; omega)] at h
        exact h)
      by_cases e1 : 1 ≤ s.size
      · have i1 : (1 : Int) ≤ (s.size : Int) := by omega
        by_cases e2 : s.size ≤ 12
        · have i2 : (s.size : Int) ≤ 12 := by omega
          have HV : Hid (Ev.uidB s.data.toList = true) := hide (by unfold Ev.uidB; rw [HF.out, len_of, decide_eq_true ⟨e1, e2⟩]; rfl)
          clear HF
          go_wp2_with fail
          go_ret
          exact ⟨ret_bool HV.out.symm, rfl⟩
        · have i2 : ¬ (s.size : Int) ≤ 12 := by omega
          have HV : Hid (Ev.uidB s.data.toList = false) := hide (by unfold Ev.uidB; rw [len_of, decide_eq_false (fun g => e2 g.2)]; rfl)
          clear HF
          go_wp2_with fail
          go_ret
          exact ⟨ret_bool HV.out.symm, rfl⟩
      · have i1 : ¬ (1 : Int) ≤ (s.size : Int) := by omega
        have HV : Hid (Ev.uidB s.data.toList = false) := hide (by unfold Ev.uidB; rw [len_of, decide_eq_false (fun g => e1 g.1)]; rfl)
        clear HF
        go_wp2_with fail
        go_ret
        exact ⟨ret_bool HV.out.symm, rfl⟩
theorem ev_textI (x : Int) : Ev.textI x = true ↔ 32 ≤ x ∧ x ≤ 126 ∨ x = 10 := by
  unfold Ev.textI; simp only [Bool.or_eq_true, btw_iff, beq_iff_eq]
set_option maxRecDepth 100000 in
set_option maxHeartbeats 2000000 in
theorem rtext_any (s : ByteArray) (w : World) (hs : s.size ≤ 100000) :
    Calls Tryz.prog 49 #[.string s] w fun e w' => e = .returned (.bool (Ev.textB s.data.toList)) ∧ w = w' := by
  go_enter Tryz.func49, Tryz.ntmps49
  go_wp2_with fail
  go_loopw [3] (fun i wr => ∃ k : Nat, k ≤ s.size ∧ i = .int .i64 k ∧ Hid ((s.data.toList.take k).all Ev.textC = true) ∧ wr = w) (fun i _ => s.size - (intOf i).toNat)
  case atStart => exact ⟨0, Nat.zero_le _, rfl, hide rfl, rfl⟩
  case round =>
    obtain ⟨k, hk, rfl, HA, rfl⟩ := hrel
    by_cases hlt : k < s.size
    · have hlt1 : (k : Int) < (s.size : Int) := by omega
      have hk0 : (0 : Int) ≤ (k : Int) := by omega
      obtain ⟨c, hc⟩ : ∃ c, s[k]'hlt = c := ⟨_, rfl⟩
      have hkl : k < s.data.toList.length := by rw [len_of]; exact hlt
      have hcl : s.data.toList[k] = c := by rw [byte_listE s k hlt, hc]
      have hyes : Ev.textI (c.toNat : Int) = true → (s.data.toList.take (k + 1)).all Ev.textC = true := fun hb => all_moreE Ev.textC s.data.toList k hkl HA.out (by rw [hcl]; exact hb)
      have hno : Ev.textI (c.toNat : Int) = false → Ev.textB s.data.toList = false := fun hb => by
        unfold Ev.textB
        rw [all_noE Ev.textC s.data.toList k hkl (by rw [hcl]; exact hb), Bool.and_false]
      have h255 : c.toNat ≤ 255 := by have := c.toNat_lt; omega
      clear hcl hkl
      rcases (by omega : 0 ≤ (c.toNat : Int) ∧ (c.toNat : Int) ≤ 9 ∨ (c.toNat : Int) = 10 ∨ 11 ≤ (c.toNat : Int) ∧ (c.toNat : Int) ≤ 31 ∨ 32 ≤ (c.toNat : Int) ∧ (c.toNat : Int) ≤ 126 ∨ 127 ≤ (c.toNat : Int) ∧ (c.toNat : Int) ≤ 255) with h | h | h | h | h
      · have c0 : 0 ≤ (c.toNat : Int) := by omega
        have a32 : decide ((c.toNat : Int) < 32) = true := decide_eq_true (by omega)
        have b126 : decide (126 < (c.toNat : Int)) = false := decide_eq_false (by omega)
        have q : ((c.toNat : Int) == 10) = false := by rw [beq_eq_false_iff_ne]; omega
        have qn : ((c.toNat : Int) != 10) = true := by rw [bne, q]; rfl
        have HF := hide (hno (by rw [← Bool.not_eq_true]; intro g; have := (ev_textI _).1 g; omega))
        clear hyes hno h
        go_wp2_with fail
        go_ret
        exact ⟨ret_bool HF.out.symm, rfl⟩
      · have c0 : 0 ≤ (c.toNat : Int) := by omega
        have a32 : decide ((c.toNat : Int) < 32) = true := decide_eq_true (by omega)
        have b126 : decide (126 < (c.toNat : Int)) = false := decide_eq_false (by omega)
        have q : ((c.toNat : Int) == 10) = true := by rw [beq_iff_eq]; exact h
        have qn : ((c.toNat : Int) != 10) = false := by rw [bne, q]; rfl
        have HN := hide (hyes ((ev_textI _).2 (by omega)))
        clear hyes hno h
        go_wp2_with fail
        go_roundw
        case rel => exact ⟨k + 1, by omega, by go_num, HN, by trivial⟩
        case measure => simp [intOf]; omega
      · have c0 : 0 ≤ (c.toNat : Int) := by omega
        have a32 : decide ((c.toNat : Int) < 32) = true := decide_eq_true (by omega)
        have b126 : decide (126 < (c.toNat : Int)) = false := decide_eq_false (by omega)
        have q : ((c.toNat : Int) == 10) = false := by rw [beq_eq_false_iff_ne]; omega
        have qn : ((c.toNat : Int) != 10) = true := by rw [bne, q]; rfl
        have HF := hide (hno (by rw [← Bool.not_eq_true]; intro g; have := (ev_textI _).1 g; omega))
        clear hyes hno h
        go_wp2_with fail
        go_ret
        exact ⟨ret_bool HF.out.symm, rfl⟩
      · have c0 : 0 ≤ (c.toNat : Int) := by omega
        have a32 : decide ((c.toNat : Int) < 32) = false := decide_eq_false (by omega)
        have b126 : decide (126 < (c.toNat : Int)) = false := decide_eq_false (by omega)
        have q : ((c.toNat : Int) == 10) = false := by rw [beq_eq_false_iff_ne]; omega
        have qn : ((c.toNat : Int) != 10) = true := by rw [bne, q]; rfl
        have HN := hide (hyes ((ev_textI _).2 (by omega)))
        clear hyes hno h
        go_wp2_with fail
        go_roundw
        case rel => exact ⟨k + 1, by omega, by go_num, HN, by trivial⟩
        case measure => simp [intOf]; omega
      · have c0 : 0 ≤ (c.toNat : Int) := by omega
        have a32 : decide ((c.toNat : Int) < 32) = false := decide_eq_false (by omega)
        have b126 : decide (126 < (c.toNat : Int)) = true := decide_eq_true (by omega)
        have q : ((c.toNat : Int) == 10) = false := by rw [beq_eq_false_iff_ne]; omega
        have qn : ((c.toNat : Int) != 10) = true := by rw [bne, q]; rfl
        have HF := hide (hno (by rw [← Bool.not_eq_true]; intro g; have := (ev_textI _).1 g; omega))
        clear hyes hno h
        go_wp2_with fail
        go_ret
        exact ⟨ret_bool HF.out.symm, rfl⟩
    · obtain rfl : k = s.size := by omega
      have HF : Hid (s.data.toList.all Ev.textC = true) := hide (by
        have h := HA.out
        rw [List.take_of_length_le (by rw [len_of]; omega)] at h
        exact h)
      by_cases e2 : s.size ≤ 40
      · have i2 : (s.size : Int) ≤ 40 := by omega
        have HV : Hid (Ev.textB s.data.toList = true) := hide (by unfold Ev.textB; rw [HF.out, len_of, decide_eq_true e2]; rfl)
        clear HF
        go_wp2_with fail
        go_ret
        exact ⟨ret_bool HV.out.symm, rfl⟩
      · have i2 : ¬ (s.size : Int) ≤ 40 := by omega
        have HV : Hid (Ev.textB s.data.toList = false) := hide (by unfold Ev.textB; rw [len_of, decide_eq_false e2]; rfl)
        clear HF
        go_wp2_with fail
        go_ret
        exact ⟨ret_bool HV.out.symm, rfl⟩
set_option maxRecDepth 100000 in
set_option maxHeartbeats 2000000 in
theorem rminutes_any (A : Option Addr) (n c : Nat) (l : List Int) (w : World) (hl : RowI w A l) (hn : n = l.length) (hsz : l.length ≤ 100000) :
    Calls Tryz.prog 51 #[.slice A n c] w (Ans w (.bool (Ev.exB l))) := by
  subst hn
  have HL := hide hl
  clear hl
  go_enter Tryz.func51, Tryz.ntmps51
  go_wp2_with fail
  go_loopw [3] (fun i wr => ∃ j : Nat, j ≤ l.length ∧ i = .int .i64 j ∧ Hid (∀ i, i < j → stepB Ev.minB inLt 0 l i = true) ∧ Below w.heap.size w wr) (fun i _ => l.length - (intOf i).toNat)
  case atStart => exact ⟨0, Nat.zero_le _, rfl, hide (fun i h => absurd h (Nat.not_lt_zero _)), start _⟩
  case round =>
    obtain ⟨j, hj, rfl, HE, hbw⟩ := hrel
    have HBR := hide hbw
    clear hbw
    by_cases hlt : j < l.length
    · obtain ⟨b1, o1, rfl, hb1, hc1⟩ := HL.out (by intro h0; rw [h0] at hlt; exact absurd hlt (Nat.not_lt_zero _))
      obtain ⟨z, hz⟩ : ∃ z, l[j] = z := ⟨_, rfl⟩
      have p1 : wr.cell? ⟨b1, o1 + j, none⟩ = some (.int .i64 z) := by rw [← hz]; exact (HBR.out.cell (p := ⟨b1, _, none⟩) hb1).trans (hc1 j hlt)
      have hi0 : (0 : Int) ≤ (j : Int) := by omega
      have hi1 : (j : Int) < (l.length : Int) := by omega
      have HB2 := hide (fun a => below_drawn HBR.out a)
      have hno : stepB Ev.minB inLt 0 l j = false → Ev.exB l = false := fun h => by
        unfold Ev.exB listB
        rw [ascB_no Ev.minB inLt 0 l j hlt h, Bool.and_false]
      have hbad : Ev.minB z = false → Ev.exB l = false := fun h => hno (stepB_p _ _ _ _ _ hlt (by rw [hz]; exact h))
      by_cases hz0 : z < 0
      · have d1 : decide (z < 0) = true := decide_eq_true hz0
        have HF := hide (hbad (by rw [← Bool.not_eq_true, Ev.minB_iff]; omega))
        clear hbad hno hz hc1
        go_wp2_with fail
        go_quiet (fail)
        have HB3 := hide (HB2.out nq)
        generalize wr.drewN nq = wq at *
        clear HB2
        go_wp2_with fail
        go_ret
        exact ⟨ret_bool HF.out.symm, HB3.out⟩
      · have d1 : decide (z < 0) = false := decide_eq_false hz0
        by_cases hzm : (52596000 : Int) ≤ z
        · have d2 : decide ((52596000 : Int) ≤ z) = true := decide_eq_true hzm
          have HF := hide (hbad (by rw [← Bool.not_eq_true, Ev.minB_iff]; omega))
          clear hbad hno hz hc1
          go_wp2_with fail
          go_quiet (fail)
          have HB3 := hide (HB2.out nq)
          generalize wr.drewN nq = wq at *
          clear HB2
          go_wp2_with fail
          go_ret
          exact ⟨ret_bool HF.out.symm, HB3.out⟩
        · have d2 : decide ((52596000 : Int) ≤ z) = false := decide_eq_false hzm
          have hm : Ev.minB z = true := (Ev.minB_iff z).2 (by omega)
          rcases Nat.eq_zero_or_pos j with h0 | h0
          · subst h0
            rw [Nat.add_zero] at p1
            have HN := hide (all_step Ev.minB inLt 0 l 0 HE.out (by rw [stepB_0 _ _ _ _ hlt, hz]; exact hm))
            have g1 : decide ((0 : Int) < ((0 : Nat) : Int)) = false := rfl
            clear hbad hno hz hc1
            go_wp2_with fail
            go_quiet (fail)
            have HB3 := hide (HB2.out nq)
            generalize wr.drewN nq = wq at *
            clear HB2
            go_wp2_with fail
            go_roundw
            case rel => exact ⟨1, by omega, by go_num, hide HN.out, HB3.out⟩
            case measure => simp [intOf]; omega
          · obtain ⟨q, rfl⟩ : ∃ q, j = q + 1 := ⟨j - 1, by omega⟩
            have hlq : q < l.length := Nat.lt_of_succ_lt hlt
            obtain ⟨y, hy⟩ : ∃ y, l[q] = y := ⟨_, rfl⟩
            have p0 : wr.cell? ⟨b1, o1 + q, none⟩ = some (.int .i64 y) := by rw [← hy]; exact (HBR.out.cell (p := ⟨b1, _, none⟩) hb1).trans (hc1 q hlq)
            have g0 : (0 : Int) < ((q + 1 : Nat) : Int) := by omega
            have g1 : decide ((0 : Int) < ((q + 1 : Nat) : Int)) = true := decide_eq_true g0
            have g2 : ((q + 1 : Nat) : Int) - 1 = (q : Int) := by omega
            have g3 : (0 : Int) ≤ (q : Int) := by omega
            have g4 : (q : Int) < (l.length : Int) := by omega
            have hs := stepB_succ Ev.minB inLt 0 l q hlt
            rw [hz, hy, hm, Bool.true_and] at hs
            cases hc : inLt y z
            · have hd : decide (z ≤ y) = true := by unfold inLt at hc; rw [decide_eq_false_iff_not] at hc; exact decide_eq_true (by omega)
              have hd2 : z ≤ y := of_decide_eq_true hd
              have HF := hide (hno (by rw [hs, hc]))
              clear hbad hno hz hy hc1 hs hc hm
              go_wp2_with fail
              go_quiet (fail)
              have HB3 := hide (HB2.out nq)
              generalize wr.drewN nq = wq at *
              clear HB2
              go_wp2_with fail
              go_ret
              exact ⟨ret_bool HF.out.symm, HB3.out⟩
            · have hd : decide (z ≤ y) = false := by unfold inLt at hc; rw [decide_eq_true_eq] at hc; exact decide_eq_false (by omega)
              have hd2 : ¬ z ≤ y := of_decide_eq_false hd
              have HN := hide (all_step Ev.minB inLt 0 l (q + 1) HE.out (by rw [hs, hc]))
              clear hbad hno hz hy hc1 hs hc hm
              go_wp2_with fail
              go_quiet (fail)
              have HB3 := hide (HB2.out nq)
              generalize wr.drewN nq = wq at *
              clear HB2
              go_wp2_with fail
              go_roundw
              case rel => exact ⟨q + 1 + 1, by omega, by go_num, hide HN.out, HB3.out⟩
              case measure => simp [intOf]; omega
    · obtain rfl : j = l.length := by omega
      have hA := (ascB_iff Ev.minB inLt 0 l).2 HE.out
      by_cases e2 : l.length ≤ 12
      · have i2 : (l.length : Int) ≤ 12 := by omega
        have HV : Hid (Ev.exB l = true) := hide (by unfold Ev.exB listB; rw [hA, decide_eq_true e2]; rfl)
        clear hA HE
        go_wp2_with fail
        go_ret
        exact ⟨ret_bool HV.out.symm, HBR.out⟩
      · have i2 : ¬ (l.length : Int) ≤ 12 := by omega
        have HV : Hid (Ev.exB l = false) := hide (by unfold Ev.exB listB; rw [decide_eq_false e2]; rfl)
        clear hA HE
        go_wp2_with fail
        go_ret
        exact ⟨ret_bool HV.out.symm, HBR.out⟩
set_option maxRecDepth 100000 in
set_option maxHeartbeats 1000000 in
theorem eqR8_any (A B : Option Addr) (n m c d : Nat) (l k : List Int) (w : World) (hl : RowI w A l) (hk : RowI w B k) (hn : n = l.length) (hm : m = k.length) (hsz : l.length ≤ 1000000) (hsk : k.length ≤ 1000000) :
    Calls Tryz.prog 46 #[.slice A n c, .slice B m d] w (Ans w (.bool (decide (l = k)))) := by
  subst hn hm
  by_cases hlen : l.length = k.length
  · by_cases hnil : l = []
    · subst hnil
      have hkn : k = [] := List.eq_nil_of_length_eq_zero hlen.symm
      subst hkn
      go_enter Tryz.func46, Tryz.ntmps46
      go_wp2_with fail
      refine wp_loop_rounds 1 ?_
      rw [rounds_succ]
      go_wp2_with fail
      go_ret
      exact ⟨rfl, start _⟩
    · obtain ⟨b1, o1, rfl, hb1, hc1⟩ := hl hnil
      obtain ⟨b2, o2, rfl, hb2, hc2⟩ := hk (by rintro rfl; exact hnil (List.eq_nil_of_length_eq_zero hlen))
      have HC1 := hide hc1
      have HC2 := hide hc2
      have HL := hide hlen
      rw [← hlen]
      clear hl hk hc1 hc2 hlen hnil
      go_enter Tryz.func46, Tryz.ntmps46
      go_wp2_with fail
      go_loopw [5] (fun i wr => ∃ j : Nat, j ≤ l.length ∧ i = .int .i64 j ∧ l.take j = k.take j ∧ Below w.heap.size w wr) (fun i _ => l.length - (intOf i).toNat)
      case atStart => exact ⟨0, Nat.zero_le _, rfl, rfl, start _⟩
      case round =>
        obtain ⟨j, hj, rfl, heq, hbw⟩ := hrel
        have HE := hide heq
        clear heq
        by_cases hlt : j < l.length
        · have hlk : j < k.length := by have := HL.out; omega
          have p1 : wr.cell? ⟨b1, o1 + j, none⟩ = some (.int .i64 l[j]) := (hbw.cell (p := ⟨b1, _, none⟩) hb1).trans (HC1.out j hlt)
          have p3 : wr.cell? ⟨b2, o2 + j, none⟩ = some (.int .i64 k[j]) := (hbw.cell (p := ⟨b2, _, none⟩) hb2).trans (HC2.out j hlk)
          have hi0 : (0 : Int) ≤ (j : Int) := by omega
          have hi1 : (j : Int) < (l.length : Int) := by omega
          cases e1 : (l[j] == k[j])
          · have HN : Hid (l ≠ k) := by
              show l ≠ k
              refine take_ne hlt hlk fun h => ?_
              rw [h, beq_self_eq_true] at e1; cases e1
            have e9 : (l[j] != k[j]) = true := by rw [bne, e1]; rfl
            go_wp2_with fail
            go_quiet (fail)
            go_wp2_with fail
            go_ret
            exact ⟨ret_bool (decide_eq_false HN.out).symm, below_drawn hbw _⟩
          · have HN : Hid (l.take (j + 1) = k.take (j + 1)) := by
              show l.take (j + 1) = k.take (j + 1)
              rw [List.take_succ_eq_append_getElem hlt, List.take_succ_eq_append_getElem hlk, HE.out]
              congr 2
              exact by simpa using e1
            have e9 : (l[j] != k[j]) = false := by rw [bne, e1]; rfl
            go_wp2_with fail
            go_quiet (fail)
            go_wp2_with fail
            go_roundw
            case rel => exact ⟨j + 1, by omega, by go_num, HN.out, below_drawn hbw _⟩
            case measure => simp [intOf]; omega
        · obtain rfl : j = l.length := by omega
          have HF : Hid (l = k) := same_all HL.out HE.out
          go_wp2_with fail
          go_ret
          exact ⟨ret_bool (decide_eq_true HF.out).symm, hbw⟩
  · have HF : Hid (l ≠ k) := fun h => hlen (by rw [h])
    have e0 : (l.length == k.length) = false := by rw [beq_eq_false_iff_ne]; exact hlen
    have e1 : ((l.length : Int) == (k.length : Int)) = false := by rw [beq_eq_false_iff_ne]; omega
    have e2 : ((l.length : Int) != (k.length : Int)) = true := by rw [bne_iff_ne]; omega
    clear hl hk
    go_enter Tryz.func46, Tryz.ntmps46
    go_wp2_with fail
    go_ret
    exact ⟨ret_bool (decide_eq_false HF.out).symm, start _⟩

end Go.Proofs.YtlmdceeeahnkcaaGreatDoor
namespace Go.Proofs.YtlmdceeeahnkcaaGreatDoor
open Go.RowKit Rul Rt Go.Sort

theorem sameE_is8 (e f : Ev.E) : Ev.sameE e f = ((e.uid == f.uid) && ((e.text == f.text) && ((e.st == f.st) && ((e.lg == f.lg) && (decide (e.rooms = f.rooms) && (sameB e.r f.r && decide (e.ex = f.ex))))))) := by
  rw [Bool.eq_iff_iff]
  unfold Ev.sameE
  rw [tx_eq, tx_eq]
  simp only [Bool.and_eq_true, decide_eq_true_eq, beq_iff_eq]
  constructor
  · rintro ⟨a, b, c, d, e, f, g⟩; exact ⟨a, b, c, d, g, e, f⟩
  · rintro ⟨a, b, c, d, g, e, f⟩; exact ⟨a, b, c, d, e, f, g⟩
set_option linter.unusedSimpArgs false in
set_option maxRecDepth 100000 in
set_option maxHeartbeats 8000000 in
theorem rSame_any (e f : Ev.E) (m n : Mem) (w : World) (h : EvL w e m) (k : EvL w f n) :
    Calls Tryz.prog 18 #[evV e m, evV f n] w (Ans w (.bool (Ev.sameE e f))) := by
  have key : ∀ (z0 z1 z2 z3 z4 z5 : Bool), (e.uid == f.uid) = z0 → (e.text == f.text) = z1 → (e.st == f.st) = z2 → (e.lg == f.lg) = z3 → decide (e.rooms = f.rooms) = z4 → sameB e.r f.r = z5 → Calls Tryz.prog 18 #[evV e m, evV f n] w (Ans w (.bool (z0 && (z1 && (z2 && (z3 && (z4 && (z5 && decide (e.ex = f.ex))))))))) := by
    intro z0 z1 z2 z3 z4 z5 h0 h1 h2 h3 h4 h5
    have HBX := hide (more (more (start w) (.cells #[.string (str e.uid), .string (str e.text), .int .i64 e.st, .int .i64 e.lg, .slice m.O e.rooms.length m.oc, .int .i64 e.r.fr, .int .i64 e.r.ev, .int .i64 e.r.ct, .int .i64 e.r.un, .slice m.D e.r.ds.length m.dc, .slice m.M e.r.ms.length m.mc, .slice m.Y e.r.ys.length m.yc, .slice m.X e.ex.length m.xc] 29)) (.cells #[.string (str f.uid), .string (str f.text), .int .i64 f.st, .int .i64 f.lg, .slice n.O f.rooms.length n.oc, .int .i64 f.r.fr, .int .i64 f.r.ev, .int .i64 f.r.ct, .int .i64 f.r.un, .slice n.D f.r.ds.length n.dc, .slice n.M f.r.ms.length n.mc, .slice n.Y f.r.ys.length n.yc, .slice n.X f.ex.length n.xc] 29))
    have HL := hide (h.keep HBX.out)
    have KL := hide (k.keep HBX.out)
    have hol := h.ol
    have kol := k.ol
    have hxl := h.xl
    have kxl := k.xl
    have C4 := hide (fun w (a : EvL w e m) (b : EvL w f n) => ans_is (eqR8_any m.O n.O e.rooms.length f.rooms.length m.oc n.oc e.rooms f.rooms w a.o b.o rfl rfl (by omega) (by omega)) h4)
    have C5 := hide (fun w (a : EvL w e m) (b : EvL w f n) => ans_is (R.same_any e.r.fr e.r.ev e.r.ct e.r.un m.D m.M m.Y e.r.ds.length m.dc e.r.ms.length m.mc e.r.ys.length m.yc f.r.fr f.r.ev f.r.ct f.r.un n.D n.M n.Y f.r.ds.length n.dc f.r.ms.length n.mc f.r.ys.length n.yc e.r.ds e.r.ms e.r.ys f.r.ds f.r.ms f.r.ys w a.r b.r) h5)
    have C6 := hide (fun w (a : EvL w e m) (b : EvL w f n) => eqR8_any m.X n.X e.ex.length f.ex.length m.xc n.xc e.ex f.ex w a.x b.x rfl rfl (by omega) (by omega))
    clear h k h4 h5 hol kol hxl kxl
    generalize decide (e.ex = f.ex) = RB at *
    obtain ⟨u, t, s, l, o, ⟨fr, ev, ct, un, ds, ms, ys⟩, x⟩ := e
    obtain ⟨O, oc, D, dc, M, mc, Y, yc, X, xc⟩ := m
    obtain ⟨u2, t2, s2, l2, o2, ⟨fr2, ev2, ct2, un2, ds2, ms2, ys2⟩, x2⟩ := f
    obtain ⟨O2, oc2, D2, dc2, M2, mc2, Y2, yc2, X2, xc2⟩ := n
    simp only [evV] at HBX HL KL C4 C5 C6 h0 h1 h2 h3 ⊢
    have a0 : ((w.alloc (.cells #[.string (str u), .string (str t), .int .i64 s, .int .i64 l, .slice O o.length oc, .int .i64 fr, .int .i64 ev, .int .i64 ct, .int .i64 un, .slice D ds.length dc, .slice M ms.length mc, .slice Y ys.length yc, .slice X x.length xc] 29)).alloc (.cells #[.string (str u2), .string (str t2), .int .i64 s2, .int .i64 l2, .slice O2 o2.length oc2, .int .i64 fr2, .int .i64 ev2, .int .i64 ct2, .int .i64 un2, .slice D2 ds2.length dc2, .slice M2 ms2.length mc2, .slice Y2 ys2.length yc2, .slice X2 x2.length xc2] 29)).cell? ⟨w.heap.size, 0, none⟩ = some (.string (str u)) := cell_two w _ _ _ _ 0 _ rfl
    have a1 : ((w.alloc (.cells #[.string (str u), .string (str t), .int .i64 s, .int .i64 l, .slice O o.length oc, .int .i64 fr, .int .i64 ev, .int .i64 ct, .int .i64 un, .slice D ds.length dc, .slice M ms.length mc, .slice Y ys.length yc, .slice X x.length xc] 29)).alloc (.cells #[.string (str u2), .string (str t2), .int .i64 s2, .int .i64 l2, .slice O2 o2.length oc2, .int .i64 fr2, .int .i64 ev2, .int .i64 ct2, .int .i64 un2, .slice D2 ds2.length dc2, .slice M2 ms2.length mc2, .slice Y2 ys2.length yc2, .slice X2 x2.length xc2] 29)).cell? ⟨w.heap.size, 1, none⟩ = some (.string (str t)) := cell_two w _ _ _ _ 1 _ rfl
    have a2 : ((w.alloc (.cells #[.string (str u), .string (str t), .int .i64 s, .int .i64 l, .slice O o.length oc, .int .i64 fr, .int .i64 ev, .int .i64 ct, .int .i64 un, .slice D ds.length dc, .slice M ms.length mc, .slice Y ys.length yc, .slice X x.length xc] 29)).alloc (.cells #[.string (str u2), .string (str t2), .int .i64 s2, .int .i64 l2, .slice O2 o2.length oc2, .int .i64 fr2, .int .i64 ev2, .int .i64 ct2, .int .i64 un2, .slice D2 ds2.length dc2, .slice M2 ms2.length mc2, .slice Y2 ys2.length yc2, .slice X2 x2.length xc2] 29)).cell? ⟨w.heap.size, 2, none⟩ = some (.int .i64 s) := cell_two w _ _ _ _ 2 _ rfl
    have a3 : ((w.alloc (.cells #[.string (str u), .string (str t), .int .i64 s, .int .i64 l, .slice O o.length oc, .int .i64 fr, .int .i64 ev, .int .i64 ct, .int .i64 un, .slice D ds.length dc, .slice M ms.length mc, .slice Y ys.length yc, .slice X x.length xc] 29)).alloc (.cells #[.string (str u2), .string (str t2), .int .i64 s2, .int .i64 l2, .slice O2 o2.length oc2, .int .i64 fr2, .int .i64 ev2, .int .i64 ct2, .int .i64 un2, .slice D2 ds2.length dc2, .slice M2 ms2.length mc2, .slice Y2 ys2.length yc2, .slice X2 x2.length xc2] 29)).cell? ⟨w.heap.size, 3, none⟩ = some (.int .i64 l) := cell_two w _ _ _ _ 3 _ rfl
    have a4 : ((w.alloc (.cells #[.string (str u), .string (str t), .int .i64 s, .int .i64 l, .slice O o.length oc, .int .i64 fr, .int .i64 ev, .int .i64 ct, .int .i64 un, .slice D ds.length dc, .slice M ms.length mc, .slice Y ys.length yc, .slice X x.length xc] 29)).alloc (.cells #[.string (str u2), .string (str t2), .int .i64 s2, .int .i64 l2, .slice O2 o2.length oc2, .int .i64 fr2, .int .i64 ev2, .int .i64 ct2, .int .i64 un2, .slice D2 ds2.length dc2, .slice M2 ms2.length mc2, .slice Y2 ys2.length yc2, .slice X2 x2.length xc2] 29)).cell? ⟨w.heap.size, 4, none⟩ = some (.slice O o.length oc) := cell_two w _ _ _ _ 4 _ rfl
    have a5 : ((w.alloc (.cells #[.string (str u), .string (str t), .int .i64 s, .int .i64 l, .slice O o.length oc, .int .i64 fr, .int .i64 ev, .int .i64 ct, .int .i64 un, .slice D ds.length dc, .slice M ms.length mc, .slice Y ys.length yc, .slice X x.length xc] 29)).alloc (.cells #[.string (str u2), .string (str t2), .int .i64 s2, .int .i64 l2, .slice O2 o2.length oc2, .int .i64 fr2, .int .i64 ev2, .int .i64 ct2, .int .i64 un2, .slice D2 ds2.length dc2, .slice M2 ms2.length mc2, .slice Y2 ys2.length yc2, .slice X2 x2.length xc2] 29)).cell? ⟨w.heap.size, 5, none⟩ = some (.int .i64 fr) := cell_two w _ _ _ _ 5 _ rfl
    have a6 : ((w.alloc (.cells #[.string (str u), .string (str t), .int .i64 s, .int .i64 l, .slice O o.length oc, .int .i64 fr, .int .i64 ev, .int .i64 ct, .int .i64 un, .slice D ds.length dc, .slice M ms.length mc, .slice Y ys.length yc, .slice X x.length xc] 29)).alloc (.cells #[.string (str u2), .string (str t2), .int .i64 s2, .int .i64 l2, .slice O2 o2.length oc2, .int .i64 fr2, .int .i64 ev2, .int .i64 ct2, .int .i64 un2, .slice D2 ds2.length dc2, .slice M2 ms2.length mc2, .slice Y2 ys2.length yc2, .slice X2 x2.length xc2] 29)).cell? ⟨w.heap.size, 6, none⟩ = some (.int .i64 ev) := cell_two w _ _ _ _ 6 _ rfl
    have a7 : ((w.alloc (.cells #[.string (str u), .string (str t), .int .i64 s, .int .i64 l, .slice O o.length oc, .int .i64 fr, .int .i64 ev, .int .i64 ct, .int .i64 un, .slice D ds.length dc, .slice M ms.length mc, .slice Y ys.length yc, .slice X x.length xc] 29)).alloc (.cells #[.string (str u2), .string (str t2), .int .i64 s2, .int .i64 l2, .slice O2 o2.length oc2, .int .i64 fr2, .int .i64 ev2, .int .i64 ct2, .int .i64 un2, .slice D2 ds2.length dc2, .slice M2 ms2.length mc2, .slice Y2 ys2.length yc2, .slice X2 x2.length xc2] 29)).cell? ⟨w.heap.size, 7, none⟩ = some (.int .i64 ct) := cell_two w _ _ _ _ 7 _ rfl
    have a8 : ((w.alloc (.cells #[.string (str u), .string (str t), .int .i64 s, .int .i64 l, .slice O o.length oc, .int .i64 fr, .int .i64 ev, .int .i64 ct, .int .i64 un, .slice D ds.length dc, .slice M ms.length mc, .slice Y ys.length yc, .slice X x.length xc] 29)).alloc (.cells #[.string (str u2), .string (str t2), .int .i64 s2, .int .i64 l2, .slice O2 o2.length oc2, .int .i64 fr2, .int .i64 ev2, .int .i64 ct2, .int .i64 un2, .slice D2 ds2.length dc2, .slice M2 ms2.length mc2, .slice Y2 ys2.length yc2, .slice X2 x2.length xc2] 29)).cell? ⟨w.heap.size, 8, none⟩ = some (.int .i64 un) := cell_two w _ _ _ _ 8 _ rfl
    have a9 : ((w.alloc (.cells #[.string (str u), .string (str t), .int .i64 s, .int .i64 l, .slice O o.length oc, .int .i64 fr, .int .i64 ev, .int .i64 ct, .int .i64 un, .slice D ds.length dc, .slice M ms.length mc, .slice Y ys.length yc, .slice X x.length xc] 29)).alloc (.cells #[.string (str u2), .string (str t2), .int .i64 s2, .int .i64 l2, .slice O2 o2.length oc2, .int .i64 fr2, .int .i64 ev2, .int .i64 ct2, .int .i64 un2, .slice D2 ds2.length dc2, .slice M2 ms2.length mc2, .slice Y2 ys2.length yc2, .slice X2 x2.length xc2] 29)).cell? ⟨w.heap.size, 9, none⟩ = some (.slice D ds.length dc) := cell_two w _ _ _ _ 9 _ rfl
    have a10 : ((w.alloc (.cells #[.string (str u), .string (str t), .int .i64 s, .int .i64 l, .slice O o.length oc, .int .i64 fr, .int .i64 ev, .int .i64 ct, .int .i64 un, .slice D ds.length dc, .slice M ms.length mc, .slice Y ys.length yc, .slice X x.length xc] 29)).alloc (.cells #[.string (str u2), .string (str t2), .int .i64 s2, .int .i64 l2, .slice O2 o2.length oc2, .int .i64 fr2, .int .i64 ev2, .int .i64 ct2, .int .i64 un2, .slice D2 ds2.length dc2, .slice M2 ms2.length mc2, .slice Y2 ys2.length yc2, .slice X2 x2.length xc2] 29)).cell? ⟨w.heap.size, 10, none⟩ = some (.slice M ms.length mc) := cell_two w _ _ _ _ 10 _ rfl
    have a11 : ((w.alloc (.cells #[.string (str u), .string (str t), .int .i64 s, .int .i64 l, .slice O o.length oc, .int .i64 fr, .int .i64 ev, .int .i64 ct, .int .i64 un, .slice D ds.length dc, .slice M ms.length mc, .slice Y ys.length yc, .slice X x.length xc] 29)).alloc (.cells #[.string (str u2), .string (str t2), .int .i64 s2, .int .i64 l2, .slice O2 o2.length oc2, .int .i64 fr2, .int .i64 ev2, .int .i64 ct2, .int .i64 un2, .slice D2 ds2.length dc2, .slice M2 ms2.length mc2, .slice Y2 ys2.length yc2, .slice X2 x2.length xc2] 29)).cell? ⟨w.heap.size, 11, none⟩ = some (.slice Y ys.length yc) := cell_two w _ _ _ _ 11 _ rfl
    have a12 : ((w.alloc (.cells #[.string (str u), .string (str t), .int .i64 s, .int .i64 l, .slice O o.length oc, .int .i64 fr, .int .i64 ev, .int .i64 ct, .int .i64 un, .slice D ds.length dc, .slice M ms.length mc, .slice Y ys.length yc, .slice X x.length xc] 29)).alloc (.cells #[.string (str u2), .string (str t2), .int .i64 s2, .int .i64 l2, .slice O2 o2.length oc2, .int .i64 fr2, .int .i64 ev2, .int .i64 ct2, .int .i64 un2, .slice D2 ds2.length dc2, .slice M2 ms2.length mc2, .slice Y2 ys2.length yc2, .slice X2 x2.length xc2] 29)).cell? ⟨w.heap.size, 12, none⟩ = some (.slice X x.length xc) := cell_two w _ _ _ _ 12 _ rfl
    have b0 : ((w.alloc (.cells #[.string (str u), .string (str t), .int .i64 s, .int .i64 l, .slice O o.length oc, .int .i64 fr, .int .i64 ev, .int .i64 ct, .int .i64 un, .slice D ds.length dc, .slice M ms.length mc, .slice Y ys.length yc, .slice X x.length xc] 29)).alloc (.cells #[.string (str u2), .string (str t2), .int .i64 s2, .int .i64 l2, .slice O2 o2.length oc2, .int .i64 fr2, .int .i64 ev2, .int .i64 ct2, .int .i64 un2, .slice D2 ds2.length dc2, .slice M2 ms2.length mc2, .slice Y2 ys2.length yc2, .slice X2 x2.length xc2] 29)).cell? ⟨w.heap.size + 1, 0, none⟩ = some (.string (str u2)) := cell_two2 w _ _ _ _ 0 _ rfl
    have b1 : ((w.alloc (.cells #[.string (str u), .string (str t), .int .i64 s, .int .i64 l, .slice O o.length oc, .int .i64 fr, .int .i64 ev, .int .i64 ct, .int .i64 un, .slice D ds.length dc, .slice M ms.length mc, .slice Y ys.length yc, .slice X x.length xc] 29)).alloc (.cells #[.string (str u2), .string (str t2), .int .i64 s2, .int .i64 l2, .slice O2 o2.length oc2, .int .i64 fr2, .int .i64 ev2, .int .i64 ct2, .int .i64 un2, .slice D2 ds2.length dc2, .slice M2 ms2.length mc2, .slice Y2 ys2.length yc2, .slice X2 x2.length xc2] 29)).cell? ⟨w.heap.size + 1, 1, none⟩ = some (.string (str t2)) := cell_two2 w _ _ _ _ 1 _ rfl
    have b2 : ((w.alloc (.cells #[.string (str u), .string (str t), .int .i64 s, .int .i64 l, .slice O o.length oc, .int .i64 fr, .int .i64 ev, .int .i64 ct, .int .i64 un, .slice D ds.length dc, .slice M ms.length mc, .slice Y ys.length yc, .slice X x.length xc] 29)).alloc (.cells #[.string (str u2), .string (str t2), .int .i64 s2, .int .i64 l2, .slice O2 o2.length oc2, .int .i64 fr2, .int .i64 ev2, .int .i64 ct2, .int .i64 un2, .slice D2 ds2.length dc2, .slice M2 ms2.length mc2, .slice Y2 ys2.length yc2, .slice X2 x2.length xc2] 29)).cell? ⟨w.heap.size + 1, 2, none⟩ = some (.int .i64 s2) := cell_two2 w _ _ _ _ 2 _ rfl
    have b3 : ((w.alloc (.cells #[.string (str u), .string (str t), .int .i64 s, .int .i64 l, .slice O o.length oc, .int .i64 fr, .int .i64 ev, .int .i64 ct, .int .i64 un, .slice D ds.length dc, .slice M ms.length mc, .slice Y ys.length yc, .slice X x.length xc] 29)).alloc (.cells #[.string (str u2), .string (str t2), .int .i64 s2, .int .i64 l2, .slice O2 o2.length oc2, .int .i64 fr2, .int .i64 ev2, .int .i64 ct2, .int .i64 un2, .slice D2 ds2.length dc2, .slice M2 ms2.length mc2, .slice Y2 ys2.length yc2, .slice X2 x2.length xc2] 29)).cell? ⟨w.heap.size + 1, 3, none⟩ = some (.int .i64 l2) := cell_two2 w _ _ _ _ 3 _ rfl
    have b4 : ((w.alloc (.cells #[.string (str u), .string (str t), .int .i64 s, .int .i64 l, .slice O o.length oc, .int .i64 fr, .int .i64 ev, .int .i64 ct, .int .i64 un, .slice D ds.length dc, .slice M ms.length mc, .slice Y ys.length yc, .slice X x.length xc] 29)).alloc (.cells #[.string (str u2), .string (str t2), .int .i64 s2, .int .i64 l2, .slice O2 o2.length oc2, .int .i64 fr2, .int .i64 ev2, .int .i64 ct2, .int .i64 un2, .slice D2 ds2.length dc2, .slice M2 ms2.length mc2, .slice Y2 ys2.length yc2, .slice X2 x2.length xc2] 29)).cell? ⟨w.heap.size + 1, 4, none⟩ = some (.slice O2 o2.length oc2) := cell_two2 w _ _ _ _ 4 _ rfl
    have b5 : ((w.alloc (.cells #[.string (str u), .string (str t), .int .i64 s, .int .i64 l, .slice O o.length oc, .int .i64 fr, .int .i64 ev, .int .i64 ct, .int .i64 un, .slice D ds.length dc, .slice M ms.length mc, .slice Y ys.length yc, .slice X x.length xc] 29)).alloc (.cells #[.string (str u2), .string (str t2), .int .i64 s2, .int .i64 l2, .slice O2 o2.length oc2, .int .i64 fr2, .int .i64 ev2, .int .i64 ct2, .int .i64 un2, .slice D2 ds2.length dc2, .slice M2 ms2.length mc2, .slice Y2 ys2.length yc2, .slice X2 x2.length xc2] 29)).cell? ⟨w.heap.size + 1, 5, none⟩ = some (.int .i64 fr2) := cell_two2 w _ _ _ _ 5 _ rfl
    have b6 : ((w.alloc (.cells #[.string (str u), .string (str t), .int .i64 s, .int .i64 l, .slice O o.length oc, .int .i64 fr, .int .i64 ev, .int .i64 ct, .int .i64 un, .slice D ds.length dc, .slice M ms.length mc, .slice Y ys.length yc, .slice X x.length xc] 29)).alloc (.cells #[.string (str u2), .string (str t2), .int .i64 s2, .int .i64 l2, .slice O2 o2.length oc2, .int .i64 fr2, .int .i64 ev2, .int .i64 ct2, .int .i64 un2, .slice D2 ds2.length dc2, .slice M2 ms2.length mc2, .slice Y2 ys2.length yc2, .slice X2 x2.length xc2] 29)).cell? ⟨w.heap.size + 1, 6, none⟩ = some (.int .i64 ev2) := cell_two2 w _ _ _ _ 6 _ rfl
    have b7 : ((w.alloc (.cells #[.string (str u), .string (str t), .int .i64 s, .int .i64 l, .slice O o.length oc, .int .i64 fr, .int .i64 ev, .int .i64 ct, .int .i64 un, .slice D ds.length dc, .slice M ms.length mc, .slice Y ys.length yc, .slice X x.length xc] 29)).alloc (.cells #[.string (str u2), .string (str t2), .int .i64 s2, .int .i64 l2, .slice O2 o2.length oc2, .int .i64 fr2, .int .i64 ev2, .int .i64 ct2, .int .i64 un2, .slice D2 ds2.length dc2, .slice M2 ms2.length mc2, .slice Y2 ys2.length yc2, .slice X2 x2.length xc2] 29)).cell? ⟨w.heap.size + 1, 7, none⟩ = some (.int .i64 ct2) := cell_two2 w _ _ _ _ 7 _ rfl
    have b8 : ((w.alloc (.cells #[.string (str u), .string (str t), .int .i64 s, .int .i64 l, .slice O o.length oc, .int .i64 fr, .int .i64 ev, .int .i64 ct, .int .i64 un, .slice D ds.length dc, .slice M ms.length mc, .slice Y ys.length yc, .slice X x.length xc] 29)).alloc (.cells #[.string (str u2), .string (str t2), .int .i64 s2, .int .i64 l2, .slice O2 o2.length oc2, .int .i64 fr2, .int .i64 ev2, .int .i64 ct2, .int .i64 un2, .slice D2 ds2.length dc2, .slice M2 ms2.length mc2, .slice Y2 ys2.length yc2, .slice X2 x2.length xc2] 29)).cell? ⟨w.heap.size + 1, 8, none⟩ = some (.int .i64 un2) := cell_two2 w _ _ _ _ 8 _ rfl
    have b9 : ((w.alloc (.cells #[.string (str u), .string (str t), .int .i64 s, .int .i64 l, .slice O o.length oc, .int .i64 fr, .int .i64 ev, .int .i64 ct, .int .i64 un, .slice D ds.length dc, .slice M ms.length mc, .slice Y ys.length yc, .slice X x.length xc] 29)).alloc (.cells #[.string (str u2), .string (str t2), .int .i64 s2, .int .i64 l2, .slice O2 o2.length oc2, .int .i64 fr2, .int .i64 ev2, .int .i64 ct2, .int .i64 un2, .slice D2 ds2.length dc2, .slice M2 ms2.length mc2, .slice Y2 ys2.length yc2, .slice X2 x2.length xc2] 29)).cell? ⟨w.heap.size + 1, 9, none⟩ = some (.slice D2 ds2.length dc2) := cell_two2 w _ _ _ _ 9 _ rfl
    have b10 : ((w.alloc (.cells #[.string (str u), .string (str t), .int .i64 s, .int .i64 l, .slice O o.length oc, .int .i64 fr, .int .i64 ev, .int .i64 ct, .int .i64 un, .slice D ds.length dc, .slice M ms.length mc, .slice Y ys.length yc, .slice X x.length xc] 29)).alloc (.cells #[.string (str u2), .string (str t2), .int .i64 s2, .int .i64 l2, .slice O2 o2.length oc2, .int .i64 fr2, .int .i64 ev2, .int .i64 ct2, .int .i64 un2, .slice D2 ds2.length dc2, .slice M2 ms2.length mc2, .slice Y2 ys2.length yc2, .slice X2 x2.length xc2] 29)).cell? ⟨w.heap.size + 1, 10, none⟩ = some (.slice M2 ms2.length mc2) := cell_two2 w _ _ _ _ 10 _ rfl
    have b11 : ((w.alloc (.cells #[.string (str u), .string (str t), .int .i64 s, .int .i64 l, .slice O o.length oc, .int .i64 fr, .int .i64 ev, .int .i64 ct, .int .i64 un, .slice D ds.length dc, .slice M ms.length mc, .slice Y ys.length yc, .slice X x.length xc] 29)).alloc (.cells #[.string (str u2), .string (str t2), .int .i64 s2, .int .i64 l2, .slice O2 o2.length oc2, .int .i64 fr2, .int .i64 ev2, .int .i64 ct2, .int .i64 un2, .slice D2 ds2.length dc2, .slice M2 ms2.length mc2, .slice Y2 ys2.length yc2, .slice X2 x2.length xc2] 29)).cell? ⟨w.heap.size + 1, 11, none⟩ = some (.slice Y2 ys2.length yc2) := cell_two2 w _ _ _ _ 11 _ rfl
    have b12 : ((w.alloc (.cells #[.string (str u), .string (str t), .int .i64 s, .int .i64 l, .slice O o.length oc, .int .i64 fr, .int .i64 ev, .int .i64 ct, .int .i64 un, .slice D ds.length dc, .slice M ms.length mc, .slice Y ys.length yc, .slice X x.length xc] 29)).alloc (.cells #[.string (str u2), .string (str t2), .int .i64 s2, .int .i64 l2, .slice O2 o2.length oc2, .int .i64 fr2, .int .i64 ev2, .int .i64 ct2, .int .i64 un2, .slice D2 ds2.length dc2, .slice M2 ms2.length mc2, .slice Y2 ys2.length yc2, .slice X2 x2.length xc2] 29)).cell? ⟨w.heap.size + 1, 12, none⟩ = some (.slice X2 x2.length xc2) := cell_two2 w _ _ _ _ 12 _ rfl
    have q1 := str_tl u
    have q2 := str_tl t
    have q3 := str_tl u2
    have q4 := str_tl t2
    cases z0
    · simp only [Bool.false_and, Bool.true_and]
      go_enter Tryz.func18, Tryz.ntmps18
      go_wp2_with fail
      go_ret
      exact ⟨rfl, HBX.out⟩
    cases z1
    · simp only [Bool.false_and, Bool.true_and]
      go_enter Tryz.func18, Tryz.ntmps18
      go_wp2_with fail
      go_ret
      exact ⟨rfl, HBX.out⟩
    cases z2
    · simp only [Bool.false_and, Bool.true_and]
      go_enter Tryz.func18, Tryz.ntmps18
      go_wp2_with fail
      go_ret
      exact ⟨rfl, HBX.out⟩
    cases z3
    · simp only [Bool.false_and, Bool.true_and]
      go_enter Tryz.func18, Tryz.ntmps18
      go_wp2_with fail
      go_ret
      exact ⟨rfl, HBX.out⟩
    cases z4
    · simp only [Bool.false_and, Bool.true_and]
      go_enter Tryz.func18, Tryz.ntmps18
      go_wp2_with fail
      refine (C4.out _ HL.out KL.out).mono ?_
      rintro e w1 ⟨rfl, hb⟩
      replace HBX := hide (andthen HBX.out hb)
      replace HL := hide (HL.out.keep hb)
      replace KL := hide (KL.out.keep hb)
      replace a4 := cell_keep hb a4
      replace b4 := cell_keep hb b4
      replace a5 := cell_keep hb a5
      replace b5 := cell_keep hb b5
      replace a6 := cell_keep hb a6
      replace b6 := cell_keep hb b6
      replace a7 := cell_keep hb a7
      replace b7 := cell_keep hb b7
      replace a8 := cell_keep hb a8
      replace b8 := cell_keep hb b8
      replace a9 := cell_keep hb a9
      replace b9 := cell_keep hb b9
      replace a10 := cell_keep hb a10
      replace b10 := cell_keep hb b10
      replace a11 := cell_keep hb a11
      replace b11 := cell_keep hb b11
      replace a12 := cell_keep hb a12
      replace b12 := cell_keep hb b12
      clear hb
      go_wp2_with fail
      go_ret
      exact ⟨rfl, HBX.out⟩
    cases z5
    · simp only [Bool.false_and, Bool.true_and]
      go_enter Tryz.func18, Tryz.ntmps18
      go_wp2_with fail
      refine (C4.out _ HL.out KL.out).mono ?_
      rintro e w1 ⟨rfl, hb⟩
      replace HBX := hide (andthen HBX.out hb)
      replace HL := hide (HL.out.keep hb)
      replace KL := hide (KL.out.keep hb)
      replace a4 := cell_keep hb a4
      replace b4 := cell_keep hb b4
      replace a5 := cell_keep hb a5
      replace b5 := cell_keep hb b5
      replace a6 := cell_keep hb a6
      replace b6 := cell_keep hb b6
      replace a7 := cell_keep hb a7
      replace b7 := cell_keep hb b7
      replace a8 := cell_keep hb a8
      replace b8 := cell_keep hb b8
      replace a9 := cell_keep hb a9
      replace b9 := cell_keep hb b9
      replace a10 := cell_keep hb a10
      replace b10 := cell_keep hb b10
      replace a11 := cell_keep hb a11
      replace b11 := cell_keep hb b11
      replace a12 := cell_keep hb a12
      replace b12 := cell_keep hb b12
      clear hb
      go_wp2_with fail
      refine (C5.out _ HL.out KL.out).mono ?_
      rintro e w1 ⟨rfl, hb⟩
      replace HBX := hide (andthen HBX.out hb)
      replace HL := hide (HL.out.keep hb)
      replace KL := hide (KL.out.keep hb)
      replace a12 := cell_keep hb a12
      replace b12 := cell_keep hb b12
      clear hb
      go_wp2_with fail
      go_ret
      exact ⟨rfl, HBX.out⟩
    simp only [Bool.false_and, Bool.true_and]
    go_enter Tryz.func18, Tryz.ntmps18
    go_wp2_with fail
    refine (C4.out _ HL.out KL.out).mono ?_
    rintro e w1 ⟨rfl, hb⟩
    replace HBX := hide (andthen HBX.out hb)
    replace HL := hide (HL.out.keep hb)
    replace KL := hide (KL.out.keep hb)
    replace a4 := cell_keep hb a4
    replace b4 := cell_keep hb b4
    replace a5 := cell_keep hb a5
    replace b5 := cell_keep hb b5
    replace a6 := cell_keep hb a6
    replace b6 := cell_keep hb b6
    replace a7 := cell_keep hb a7
    replace b7 := cell_keep hb b7
    replace a8 := cell_keep hb a8
    replace b8 := cell_keep hb b8
    replace a9 := cell_keep hb a9
    replace b9 := cell_keep hb b9
    replace a10 := cell_keep hb a10
    replace b10 := cell_keep hb b10
    replace a11 := cell_keep hb a11
    replace b11 := cell_keep hb b11
    replace a12 := cell_keep hb a12
    replace b12 := cell_keep hb b12
    clear hb
    go_wp2_with fail
    refine (C5.out _ HL.out KL.out).mono ?_
    rintro e w1 ⟨rfl, hb⟩
    replace HBX := hide (andthen HBX.out hb)
    replace HL := hide (HL.out.keep hb)
    replace KL := hide (KL.out.keep hb)
    replace a12 := cell_keep hb a12
    replace b12 := cell_keep hb b12
    clear hb
    go_wp2_with fail
    refine (C6.out _ HL.out KL.out).mono ?_
    rintro e w1 ⟨rfl, hb⟩
    replace HBX := hide (andthen HBX.out hb)
    replace HL := hide (HL.out.keep hb)
    replace KL := hide (KL.out.keep hb)
    clear hb
    go_wp2_with fail
    go_ret
    exact ⟨rfl, HBX.out⟩
  rw [sameE_is8]
  exact key _ _ _ _ _ _ rfl rfl rfl rfl rfl rfl
theorem rcall_u (u : Tx) {b : Bool} (w : World) (hu : u.length ≤ 40000) (h : Ev.uidB u = b) : Calls Tryz.prog 48 #[.string (str u)] w fun e w' => e = .returned (.bool b) ∧ w = w' := by
  have := ruid_any (str u) w (by rw [str_size]; omega)
  rwa [str_list, h] at this
theorem rcall_t (u : Tx) {b : Bool} (w : World) (hu : u.length ≤ 40000) (h : Ev.textB u = b) : Calls Tryz.prog 49 #[.string (str u)] w fun e w' => e = .returned (.bool b) ∧ w = w' := by
  have := rtext_any (str u) w (by rw [str_size]; omega)
  rwa [str_list, h] at this
theorem rule_once {r : Rul.T} (h : isB r = true) (h0 : r.fr = 0) : r = once := by
  have := isB_0 r h0
  rw [h] at this
  exact (sameB_iff r once).1 this.symm
set_option maxRecDepth 100000 in
set_option maxHeartbeats 16000000 in
theorem rIs_any (e : Ev.E) (m : Mem) (w : World) (h : EvL w e m) :
    Calls Tryz.prog 21 #[evV e m] w (Ans w (.bool (Ev.isE e))) := by
  obtain ⟨u, t, s, l, o, ⟨fr, ev, ct, un, ds, ms, ys⟩, x⟩ := e
  obtain ⟨O, oc, D, dc, M, mc, Y, yc, X, xc⟩ := m
  have HUL : Hid (u.length ≤ 40000) := hide h.ul
  have HTL : Hid (t.length ≤ 40000) := hide h.tl
  have hxl : x.length ≤ 10000 := h.xl
  have HXL : Hid (x.length ≤ 100000) := hide (by omega)
  have hol : o.length ≤ 10000 := h.ol
  have HBX := hide (more (start w) (.cells #[.string (str u), .string (str t), .int .i64 s, .int .i64 l, .slice O o.length oc, .int .i64 fr, .int .i64 ev, .int .i64 ct, .int .i64 un, .slice D ds.length dc, .slice M ms.length mc, .slice Y ys.length yc, .slice X x.length xc] 29))
  have HL := hide (h.keep HBX.out)
  have s0 : (w.alloc (.cells #[.string (str u), .string (str t), .int .i64 s, .int .i64 l, .slice O o.length oc, .int .i64 fr, .int .i64 ev, .int .i64 ct, .int .i64 un, .slice D ds.length dc, .slice M ms.length mc, .slice Y ys.length yc, .slice X x.length xc] 29)).cell? ⟨w.heap.size, 0, none⟩ = some (.string (str u)) := by rw [World.cell?_alloc_at _ _ _ _ rfl]; rfl
  have s1 : (w.alloc (.cells #[.string (str u), .string (str t), .int .i64 s, .int .i64 l, .slice O o.length oc, .int .i64 fr, .int .i64 ev, .int .i64 ct, .int .i64 un, .slice D ds.length dc, .slice M ms.length mc, .slice Y ys.length yc, .slice X x.length xc] 29)).cell? ⟨w.heap.size, 1, none⟩ = some (.string (str t)) := by rw [World.cell?_alloc_at _ _ _ _ rfl]; rfl
  have s2 : (w.alloc (.cells #[.string (str u), .string (str t), .int .i64 s, .int .i64 l, .slice O o.length oc, .int .i64 fr, .int .i64 ev, .int .i64 ct, .int .i64 un, .slice D ds.length dc, .slice M ms.length mc, .slice Y ys.length yc, .slice X x.length xc] 29)).cell? ⟨w.heap.size, 2, none⟩ = some (.int .i64 s) := by rw [World.cell?_alloc_at _ _ _ _ rfl]; rfl
  have s3 : (w.alloc (.cells #[.string (str u), .string (str t), .int .i64 s, .int .i64 l, .slice O o.length oc, .int .i64 fr, .int .i64 ev, .int .i64 ct, .int .i64 un, .slice D ds.length dc, .slice M ms.length mc, .slice Y ys.length yc, .slice X x.length xc] 29)).cell? ⟨w.heap.size, 3, none⟩ = some (.int .i64 l) := by rw [World.cell?_alloc_at _ _ _ _ rfl]; rfl
  have s4 : (w.alloc (.cells #[.string (str u), .string (str t), .int .i64 s, .int .i64 l, .slice O o.length oc, .int .i64 fr, .int .i64 ev, .int .i64 ct, .int .i64 un, .slice D ds.length dc, .slice M ms.length mc, .slice Y ys.length yc, .slice X x.length xc] 29)).cell? ⟨w.heap.size, 4, none⟩ = some (.slice O o.length oc) := by rw [World.cell?_alloc_at _ _ _ _ rfl]; rfl
  have s5 : (w.alloc (.cells #[.string (str u), .string (str t), .int .i64 s, .int .i64 l, .slice O o.length oc, .int .i64 fr, .int .i64 ev, .int .i64 ct, .int .i64 un, .slice D ds.length dc, .slice M ms.length mc, .slice Y ys.length yc, .slice X x.length xc] 29)).cell? ⟨w.heap.size, 5, none⟩ = some (.int .i64 fr) := by rw [World.cell?_alloc_at _ _ _ _ rfl]; rfl
  have s6 : (w.alloc (.cells #[.string (str u), .string (str t), .int .i64 s, .int .i64 l, .slice O o.length oc, .int .i64 fr, .int .i64 ev, .int .i64 ct, .int .i64 un, .slice D ds.length dc, .slice M ms.length mc, .slice Y ys.length yc, .slice X x.length xc] 29)).cell? ⟨w.heap.size, 6, none⟩ = some (.int .i64 ev) := by rw [World.cell?_alloc_at _ _ _ _ rfl]; rfl
  have s7 : (w.alloc (.cells #[.string (str u), .string (str t), .int .i64 s, .int .i64 l, .slice O o.length oc, .int .i64 fr, .int .i64 ev, .int .i64 ct, .int .i64 un, .slice D ds.length dc, .slice M ms.length mc, .slice Y ys.length yc, .slice X x.length xc] 29)).cell? ⟨w.heap.size, 7, none⟩ = some (.int .i64 ct) := by rw [World.cell?_alloc_at _ _ _ _ rfl]; rfl
  have s8 : (w.alloc (.cells #[.string (str u), .string (str t), .int .i64 s, .int .i64 l, .slice O o.length oc, .int .i64 fr, .int .i64 ev, .int .i64 ct, .int .i64 un, .slice D ds.length dc, .slice M ms.length mc, .slice Y ys.length yc, .slice X x.length xc] 29)).cell? ⟨w.heap.size, 8, none⟩ = some (.int .i64 un) := by rw [World.cell?_alloc_at _ _ _ _ rfl]; rfl
  have s9 : (w.alloc (.cells #[.string (str u), .string (str t), .int .i64 s, .int .i64 l, .slice O o.length oc, .int .i64 fr, .int .i64 ev, .int .i64 ct, .int .i64 un, .slice D ds.length dc, .slice M ms.length mc, .slice Y ys.length yc, .slice X x.length xc] 29)).cell? ⟨w.heap.size, 9, none⟩ = some (.slice D ds.length dc) := by rw [World.cell?_alloc_at _ _ _ _ rfl]; rfl
  have s10 : (w.alloc (.cells #[.string (str u), .string (str t), .int .i64 s, .int .i64 l, .slice O o.length oc, .int .i64 fr, .int .i64 ev, .int .i64 ct, .int .i64 un, .slice D ds.length dc, .slice M ms.length mc, .slice Y ys.length yc, .slice X x.length xc] 29)).cell? ⟨w.heap.size, 10, none⟩ = some (.slice M ms.length mc) := by rw [World.cell?_alloc_at _ _ _ _ rfl]; rfl
  have s11 : (w.alloc (.cells #[.string (str u), .string (str t), .int .i64 s, .int .i64 l, .slice O o.length oc, .int .i64 fr, .int .i64 ev, .int .i64 ct, .int .i64 un, .slice D ds.length dc, .slice M ms.length mc, .slice Y ys.length yc, .slice X x.length xc] 29)).cell? ⟨w.heap.size, 11, none⟩ = some (.slice Y ys.length yc) := by rw [World.cell?_alloc_at _ _ _ _ rfl]; rfl
  have s12 : (w.alloc (.cells #[.string (str u), .string (str t), .int .i64 s, .int .i64 l, .slice O o.length oc, .int .i64 fr, .int .i64 ev, .int .i64 ct, .int .i64 un, .slice D ds.length dc, .slice M ms.length mc, .slice Y ys.length yc, .slice X x.length xc] 29)).cell? ⟨w.heap.size, 12, none⟩ = some (.slice X x.length xc) := by rw [World.cell?_alloc_at _ _ _ _ rfl]; rfl
  clear h hxl
  simp only [evV]
  go_enter Tryz.func21, Tryz.ntmps21
  go_wp2_with fail
  generalize (w.alloc (.cells #[.string (str u), .string (str t), .int .i64 s, .int .i64 l, .slice O o.length oc, .int .i64 fr, .int .i64 ev, .int .i64 ct, .int .i64 un, .slice D ds.length dc, .slice M ms.length mc, .slice Y ys.length yc, .slice X x.length xc] 29)) = W1 at *
  go_loopw [3] (fun i wr => ∃ j : Nat, j ≤ o.length ∧ i = .int .i64 j ∧ Hid (∀ i, i < j → stepB Ev.roomB inLt 0 o i = true) ∧ Below W1.heap.size W1 wr) (fun i _ => o.length - (intOf i).toNat)
  case atStart => exact ⟨0, Nat.zero_le _, rfl, hide (fun i h => absurd h (Nat.not_lt_zero _)), start _⟩
  case round =>
    obtain ⟨j, hj, rfl, HE, hbw⟩ := hrel
    have HBR := hide hbw
    have c4 := cell_keep hbw s4
    clear hbw
    by_cases hlt : j < o.length
    · obtain ⟨b1, o1, rfl, hb1, hc1⟩ := HL.out.o (by intro h0; have h0' : o = [] := h0; rw [h0'] at hlt; exact absurd hlt (Nat.not_lt_zero _))
      obtain ⟨z, hz⟩ : ∃ z, o[j] = z := ⟨_, rfl⟩
      have p1 : wr.cell? ⟨b1, o1 + j, none⟩ = some (.int .i64 z) := by rw [← hz]; exact (HBR.out.cell (p := ⟨b1, _, none⟩) hb1).trans (hc1 j hlt)
      have hi0 : (0 : Int) ≤ (j : Int) := by omega
      have hi1 : (j : Int) < (o.length : Int) := by omega
      have HB2 := hide (fun a => below_drawn HBR.out a)
      have hno : stepB Ev.roomB inLt 0 o j = false → Ev.isE ⟨u, t, s, l, o, ⟨fr, ev, ct, un, ds, ms, ys⟩, x⟩ = false := fun h => Ev.no_of fun g => by
        have g2 : Ev.roomsB o = true := g.rooms
        unfold Ev.roomsB at g2
        rw [ascB_no Ev.roomB inLt 0 o j hlt h, Bool.and_false] at g2
        cases g2
      have hbad : Ev.roomB z = false → Ev.isE ⟨u, t, s, l, o, ⟨fr, ev, ct, un, ds, ms, ys⟩, x⟩ = false := fun h => hno (stepB_p _ _ _ _ _ hlt (by rw [hz]; exact h))
      by_cases hz0 : z < 0
      · have d1 : decide (z < 0) = true := decide_eq_true hz0
        have HF := hide (hbad (by rw [← Bool.not_eq_true, Ev.roomB, btw_iff]; omega))
        clear hbad hno hz hc1
        go_wp2_with fail
        go_quiet (fail)
        have HB3 := hide (HB2.out nq)
        generalize wr.drewN nq = wq at *
        clear HB2
        go_wp2_with fail
        go_ret
        rw [HF.out]
        exact ⟨rfl, andthen HBX.out HB3.out⟩
      · have d1 : decide (z < 0) = false := decide_eq_false hz0
        by_cases hzm : (8 : Int) ≤ z
        · have d2 : decide ((8 : Int) ≤ z) = true := decide_eq_true hzm
          have HF := hide (hbad (by rw [← Bool.not_eq_true, Ev.roomB, btw_iff]; omega))
          clear hbad hno hz hc1
          go_wp2_with fail
          go_quiet (fail)
          have HB3 := hide (HB2.out nq)
          generalize wr.drewN nq = wq at *
          clear HB2
          go_wp2_with fail
          go_ret
          rw [HF.out]
          exact ⟨rfl, andthen HBX.out HB3.out⟩
        · have d2 : decide ((8 : Int) ≤ z) = false := decide_eq_false hzm
          have hm : Ev.roomB z = true := by rw [Ev.roomB, btw_iff]; omega
          rcases Nat.eq_zero_or_pos j with h0 | h0
          · subst h0
            rw [Nat.add_zero] at p1
            have HN := hide (all_step Ev.roomB inLt 0 o 0 HE.out (by rw [stepB_0 _ _ _ _ hlt, hz]; exact hm))
            have g1 : decide ((0 : Int) < ((0 : Nat) : Int)) = false := rfl
            clear hbad hno hz hc1
            go_wp2_with fail
            go_quiet (fail)
            have HB3 := hide (HB2.out nq)
            generalize wr.drewN nq = wq at *
            clear HB2
            go_wp2_with fail
            go_roundw
            case rel => exact ⟨1, by omega, by go_num, hide HN.out, HB3.out⟩
            case measure => simp [intOf]; omega
          · obtain ⟨q, rfl⟩ : ∃ q, j = q + 1 := ⟨j - 1, by omega⟩
            have hlq : q < o.length := Nat.lt_of_succ_lt hlt
            obtain ⟨y, hy⟩ : ∃ y, o[q] = y := ⟨_, rfl⟩
            have p0 : wr.cell? ⟨b1, o1 + q, none⟩ = some (.int .i64 y) := by rw [← hy]; exact (HBR.out.cell (p := ⟨b1, _, none⟩) hb1).trans (hc1 q hlq)
            have g0 : (0 : Int) < ((q + 1 : Nat) : Int) := by omega
            have g1 : decide ((0 : Int) < ((q + 1 : Nat) : Int)) = true := decide_eq_true g0
            have g2 : ((q + 1 : Nat) : Int) - 1 = (q : Int) := by omega
            have g3 : (0 : Int) ≤ (q : Int) := by omega
            have g4 : (q : Int) < (o.length : Int) := by omega
            have hs := stepB_succ Ev.roomB inLt 0 o q hlt
            rw [hz, hy, hm, Bool.true_and] at hs
            cases hc : inLt y z
            · have hd : decide (z ≤ y) = true := by unfold inLt at hc; rw [decide_eq_false_iff_not] at hc; exact decide_eq_true (by omega)
              have hd2 : z ≤ y := of_decide_eq_true hd
              have HF := hide (hno (by rw [hs, hc]))
              clear hbad hno hz hy hc1 hs hc hm
              go_wp2_with fail
              go_quiet (fail)
              have HB3 := hide (HB2.out nq)
              generalize wr.drewN nq = wq at *
              clear HB2
              go_wp2_with fail
              go_ret
              rw [HF.out]
              exact ⟨rfl, andthen HBX.out HB3.out⟩
            · have hd : decide (z ≤ y) = false := by unfold inLt at hc; rw [decide_eq_true_eq] at hc; exact decide_eq_false (by omega)
              have hd2 : ¬ z ≤ y := of_decide_eq_false hd
              have HN := hide (all_step Ev.roomB inLt 0 o (q + 1) HE.out (by rw [hs, hc]))
              clear hbad hno hz hy hc1 hs hc hm
              go_wp2_with fail
              go_quiet (fail)
              have HB3 := hide (HB2.out nq)
              generalize wr.drewN nq = wq at *
              clear HB2
              go_wp2_with fail
              go_roundw
              case rel => exact ⟨q + 1 + 1, by omega, by go_num, hide HN.out, HB3.out⟩
              case measure => simp [intOf]; omega
    · obtain rfl : j = o.length := by omega
      have HA := hide ((ascB_iff Ev.roomB inLt 0 o).2 HE.out)
      have d0 := cell_keep HBR.out s0
      have d1 := cell_keep HBR.out s1
      have d2 := cell_keep HBR.out s2
      have d3 := cell_keep HBR.out s3
      have d4 := cell_keep HBR.out s4
      have d5 := cell_keep HBR.out s5
      have d6 := cell_keep HBR.out s6
      have d7 := cell_keep HBR.out s7
      have d8 := cell_keep HBR.out s8
      have d9 := cell_keep HBR.out s9
      have d10 := cell_keep HBR.out s10
      have d11 := cell_keep HBR.out s11
      have d12 := cell_keep HBR.out s12
      replace HL := hide (HL.out.keep HBR.out)
      clear s0 s1 s2 s3 s4 s5 s6 s7 s8 s9 s10 s11 s12 c4 HE
      go_wp2_with fail
      cases hX0 : Ev.uidB u with
      | false =>
        have HX0 := hide hX0
        have HV : Hid (Ev.isE ⟨u, t, s, l, o, ⟨fr, ev, ct, un, ds, ms, ys⟩, x⟩ = false) := hide (Ev.no_of fun g => by have g2 : Ev.uidB u = true := g.uid; rw [hX0] at g2; cases g2)
        clear hX0
        refine (rcall_u u _ HUL.out HX0.out).mono ?_
        rintro e w1 ⟨rfl, rfl⟩
        go_wp2_with fail
        go_ret
        rw [HV.out]
        exact ⟨rfl, andthen HBX.out HBR.out⟩
      | true =>
        have HX0 := hide hX0
        refine (rcall_u u _ HUL.out HX0.out).mono ?_
        rintro e w1 ⟨rfl, rfl⟩
        go_wp2_with fail
        cases hX1 : Ev.textB t with
        | false =>
          have HX1 := hide hX1
          have HV : Hid (Ev.isE ⟨u, t, s, l, o, ⟨fr, ev, ct, un, ds, ms, ys⟩, x⟩ = false) := hide (Ev.no_of fun g => by have g2 : Ev.textB t = true := g.text; rw [hX1] at g2; cases g2)
          clear hX0 hX1
          refine (rcall_t t _ HTL.out HX1.out).mono ?_
          rintro e w1 ⟨rfl, rfl⟩
          go_wp2_with fail
          go_ret
          rw [HV.out]
          exact ⟨rfl, andthen HBX.out HBR.out⟩
        | true =>
          have HX1 := hide hX1
          refine (rcall_t t _ HTL.out HX1.out).mono ?_
          rintro e w1 ⟨rfl, rfl⟩
          by_cases i2 : (0 : Int) ≤ s
          · by_cases i3 : s < (52596000 : Int)
            · by_cases i4 : (1 : Int) ≤ l
              · by_cases i5 : l ≤ (10080 : Int)
                · by_cases i6 : (1 : Int) ≤ (o.length : Int)
                  · by_cases i7 : (o.length : Int) ≤ (4 : Int)
                    · go_wp2_with fail
                      cases hX8 : isB ⟨fr, ev, ct, un, ds, ms, ys⟩ with
                      | false =>
                        have HX8 := hide hX8
                        have HV : Hid (Ev.isE ⟨u, t, s, l, o, ⟨fr, ev, ct, un, ds, ms, ys⟩, x⟩ = false) := hide (Ev.no_of fun g => by have g2 : isB ⟨fr, ev, ct, un, ds, ms, ys⟩ = true := g.r; rw [hX8] at g2; cases g2)
                        clear hX0 hX1 hX8
                        refine (ans_is (R.is_any fr ev ct un D M Y ds.length dc ms.length mc ys.length yc ds ms ys _ HL.out.r) HX8.out).mono ?_
                        rintro e w1 ⟨rfl, hb⟩
                        replace HBR := hide (andthen HBR.out hb)
                        replace HL := hide (HL.out.keep hb)
                        replace d5 := cell_keep hb d5
                        replace d12 := cell_keep hb d12
                        clear hb
                        go_wp2_with fail
                        go_ret
                        rw [HV.out]
                        exact ⟨rfl, andthen HBX.out HBR.out⟩
                      | true =>
                        have HX8 := hide hX8
                        refine (ans_is (R.is_any fr ev ct un D M Y ds.length dc ms.length mc ys.length yc ds ms ys _ HL.out.r) HX8.out).mono ?_
                        rintro e w1 ⟨rfl, hb⟩
                        replace HBR := hide (andthen HBR.out hb)
                        replace HL := hide (HL.out.keep hb)
                        replace d5 := cell_keep hb d5
                        replace d12 := cell_keep hb d12
                        clear hb
                        go_wp2_with fail
                        cases hX9 : Ev.exB x with
                        | false =>
                          have HX9 := hide hX9
                          have HV : Hid (Ev.isE ⟨u, t, s, l, o, ⟨fr, ev, ct, un, ds, ms, ys⟩, x⟩ = false) := hide (Ev.no_of fun g => by have g2 : Ev.exB x = true := g.ex; rw [hX9] at g2; cases g2)
                          clear hX0 hX1 hX8 hX9
                          refine (ans_is (rminutes_any X x.length xc x _ HL.out.x rfl HXL.out) HX9.out).mono ?_
                          rintro e w1 ⟨rfl, hb⟩
                          replace HBR := hide (andthen HBR.out hb)
                          replace HL := hide (HL.out.keep hb)
                          replace d5 := cell_keep hb d5
                          replace d12 := cell_keep hb d12
                          clear hb
                          go_wp2_with fail
                          go_ret
                          rw [HV.out]
                          exact ⟨rfl, andthen HBX.out HBR.out⟩
                        | true =>
                          have HX9 := hide hX9
                          refine (ans_is (rminutes_any X x.length xc x _ HL.out.x rfl HXL.out) HX9.out).mono ?_
                          rintro e w1 ⟨rfl, hb⟩
                          replace HBR := hide (andthen HBR.out hb)
                          replace HL := hide (HL.out.keep hb)
                          replace d5 := cell_keep hb d5
                          replace d12 := cell_keep hb d12
                          clear hb
                          by_cases f0 : fr = 0
                          · have k0 : (fr == 0) = true := beq_iff_eq.2 f0
                            have k1 : (fr != 0) = false := by rw [bne, k0]; rfl
                            have ho := rule_once hX8 f0
                            by_cases x0 : x.length = 0
                            · have HV : Hid (Ev.isE ⟨u, t, s, l, o, ⟨fr, ev, ct, un, ds, ms, ys⟩, x⟩ = true) := hide ((Ev.isE_iff _).2 ⟨hX0, hX1, (Ev.minB_iff s).2 ⟨i2, i3⟩, (by show Ev.lgB l = true; rw [Ev.lgB, btw_iff]; exact ⟨i4, i5⟩), hX8, hX9, Or.inl (List.length_eq_zero_iff.1 x0), (Ev.roomsB_iff o).2 ⟨⟨by omega, by omega⟩, (Ev.asc_iff Ev.roomB o (by omega)).1 HA.out⟩⟩)
                              have k2 : ((x.length : Int) == 0) = true := by rw [beq_iff_eq]; omega
                              clear hX0 hX1 hX8 hX9 ho
                              go_wp2_with fail
                              go_ret
                              rw [HV.out]
                              exact ⟨rfl, andthen HBX.out HBR.out⟩
                            · have HV : Hid (Ev.isE ⟨u, t, s, l, o, ⟨fr, ev, ct, un, ds, ms, ys⟩, x⟩ = false) := hide (Ev.no_of fun g => by rcases g.free with g2 | g2; exact x0 (by have g3 : x = [] := g2; rw [g3]; rfl); exact g2 ho)
                              have k2 : ((x.length : Int) == 0) = false := by rw [beq_eq_false_iff_ne]; omega
                              clear hX0 hX1 hX8 hX9 ho
                              go_wp2_with fail
                              go_ret
                              rw [HV.out]
                              exact ⟨rfl, andthen HBX.out HBR.out⟩
                          · have k0 : (fr == 0) = false := beq_eq_false_iff_ne.2 f0
                            have k1 : (fr != 0) = true := by rw [bne, k0]; rfl
                            have HV : Hid (Ev.isE ⟨u, t, s, l, o, ⟨fr, ev, ct, un, ds, ms, ys⟩, x⟩ = true) := hide ((Ev.isE_iff _).2 ⟨hX0, hX1, (Ev.minB_iff s).2 ⟨i2, i3⟩, (by show Ev.lgB l = true; rw [Ev.lgB, btw_iff]; exact ⟨i4, i5⟩), hX8, hX9, Or.inr (fun g => f0 (congrArg Rul.T.fr g)), (Ev.roomsB_iff o).2 ⟨⟨by omega, by omega⟩, (Ev.asc_iff Ev.roomB o (by omega)).1 HA.out⟩⟩)
                            clear hX0 hX1 hX8 hX9
                            go_wp2_with fail
                            go_ret
                            rw [HV.out]
                            exact ⟨rfl, andthen HBX.out HBR.out⟩
                    · have HV : Hid (Ev.isE ⟨u, t, s, l, o, ⟨fr, ev, ct, un, ds, ms, ys⟩, x⟩ = false) := hide (Ev.no_of fun g => by have g2 := ((Ev.roomsB_iff o).1 g.rooms).1; omega)
                      clear hX0 hX1
                      go_wp2_with fail
                      go_ret
                      rw [HV.out]
                      exact ⟨rfl, andthen HBX.out HBR.out⟩
                  · have HV : Hid (Ev.isE ⟨u, t, s, l, o, ⟨fr, ev, ct, un, ds, ms, ys⟩, x⟩ = false) := hide (Ev.no_of fun g => by have g2 := ((Ev.roomsB_iff o).1 g.rooms).1; omega)
                    clear hX0 hX1
                    go_wp2_with fail
                    go_ret
                    rw [HV.out]
                    exact ⟨rfl, andthen HBX.out HBR.out⟩
                · have HV : Hid (Ev.isE ⟨u, t, s, l, o, ⟨fr, ev, ct, un, ds, ms, ys⟩, x⟩ = false) := hide (Ev.no_of fun g => by have g2 : Ev.lgB l = true := g.lg; rw [Ev.lgB, btw_iff] at g2; omega)
                  clear hX0 hX1
                  go_wp2_with fail
                  go_ret
                  rw [HV.out]
                  exact ⟨rfl, andthen HBX.out HBR.out⟩
              · have HV : Hid (Ev.isE ⟨u, t, s, l, o, ⟨fr, ev, ct, un, ds, ms, ys⟩, x⟩ = false) := hide (Ev.no_of fun g => by have g2 : Ev.lgB l = true := g.lg; rw [Ev.lgB, btw_iff] at g2; omega)
                clear hX0 hX1
                go_wp2_with fail
                go_ret
                rw [HV.out]
                exact ⟨rfl, andthen HBX.out HBR.out⟩
            · have HV : Hid (Ev.isE ⟨u, t, s, l, o, ⟨fr, ev, ct, un, ds, ms, ys⟩, x⟩ = false) := hide (Ev.no_of fun g => by have g2 := (Ev.minB_iff s).1 g.st; omega)
              clear hX0 hX1
              go_wp2_with fail
              go_ret
              rw [HV.out]
              exact ⟨rfl, andthen HBX.out HBR.out⟩
          · have HV : Hid (Ev.isE ⟨u, t, s, l, o, ⟨fr, ev, ct, un, ds, ms, ys⟩, x⟩ = false) := hide (Ev.no_of fun g => by have g2 := (Ev.minB_iff s).1 g.st; omega)
            clear hX0 hX1
            go_wp2_with fail
            go_ret
            rw [HV.out]
            exact ⟨rfl, andthen HBX.out HBR.out⟩

end Go.Proofs.YtlmdceeeahnkcaaGreatDoor

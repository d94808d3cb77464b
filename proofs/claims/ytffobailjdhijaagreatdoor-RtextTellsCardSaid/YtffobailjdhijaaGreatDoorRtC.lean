/- Walks of the document's texts: Cut, Dec. -/
import Derived.Test.YtffobailjdhijaaGreatDoorRtA
import Derived.Test.YtffobailjdhijaaGreatDoorRtB
import Derived.Lib.IndexBytes
import Derived.Lib.ItoaLen
namespace Go.Proofs.YtffobailjdhijaaGreatDoor
open Go.RowKit Rul Rt Go.Sort

def GivesS (w : World) (l : List Tx) (e : Ending) (w' : World) : Prop := ∃ v, e = .returned v ∧ OwnS w' w.heap.size v l ∧ Below w.heap.size w w'
theorem GivesS.is {w : World} {l k : List Tx} {e : Ending} {w' : World} (h : GivesS w l e w') (he : l = k) : GivesS w k e w' := he ▸ h
theorem len_of (s : ByteArray) : s.data.toList.length = s.size := by simp
theorem byte_eq (a b : UInt8) : ((a.toNat : Int) == (b.toNat : Int)) = decide (a = b) := by
  by_cases h : a = b
  · subst h; simp
  · rw [decide_eq_false h, beq_eq_false_iff_ne]
    intro e; exact h (UInt8.toNat_inj.1 (by omega))
theorem str_of (s : ByteArray) : s = str s.data.toList := by apply ByteArray.ext; simp [str]
theorem ext_str (s : ByteArray) (a b : Nat) : s.extract a b = str ((s.data.toList.take b).drop a) := by
  rw [str_of (s.extract a b), Lib.extract_data]
  congr 1
  rw [List.drop_take]
theorem ext_end (s : ByteArray) (a : Nat) : s.extract a s.size = str (s.data.toList.drop a) := by
  rw [ext_str]
  congr 2
  exact List.take_of_length_le (by simp)
theorem take_next (s : ByteArray) (k : Nat) (h : k < s.size) : s.data.toList.take (k + 1) = s.data.toList.take k ++ [s[k]] := by
  rw [List.take_succ_eq_append_getElem (by simpa using h)]; rfl
/-- the pieces behind one byte more. -/
theorem cut_here (c : UInt8) (l : Tx) (done : List Tx) (x : Tx) (h : cutAt c l = done ++ [x]) : cutAt c (l ++ [c]) = (done ++ [x]) ++ [[]] := by
  rw [cutAt_snoc, if_pos rfl, h]
theorem cut_there (c b : UInt8) (hb : b ≠ c) (l : Tx) (done : List Tx) (x : Tx) (h : cutAt c l = done ++ [x]) : cutAt c (l ++ [b]) = done ++ [x ++ [b]] := by
  rw [cutAt_snoc, if_neg hb, h]
  simp

set_option maxRecDepth 100000 in
set_option maxHeartbeats 1000000 in
theorem rCut_any (s : ByteArray) (c : UInt8) (C : Int) (w : World) (hC : C = (c.toNat : Int)) (hs : s.size ≤ 100000) :
    Calls Tryz.prog 18 #[.string s, .int .u8 C] w (GivesS w (cutAt c s.data.toList)) := by
  have HC := hide hC
  clear hC
  go_enter Tryz.func18, Tryz.ntmps18
  go_wp2_with fail
  go_loopw [5, 6, 7] (fun v f i wr => ∃ (j k : Nat) (done : List Tx), j ≤ s.size ∧ k ≤ j ∧ i = .int .i64 j ∧ f = .int .i64 k ∧ OwnS wr w.heap.size v done ∧ Hid (cutAt c (s.data.toList.take j) = done ++ [(s.data.toList.take j).drop k]) ∧ Hid (done.length ≤ j) ∧ Below w.heap.size w wr) (fun _ _ i _ => s.size - (intOf i).toNat)
  case atStart => exact ⟨0, 0, [], Nat.zero_le _, Nat.le_refl _, rfl, rfl, ownS_nil _ _, hide rfl, hide (Nat.zero_le _), start _⟩
  case round =>
    obtain ⟨j, k, done, hj, hk, rfl, rfl, hown, HD, HL, hbw⟩ := hrel
    have HO := hide hown
    have HBR := hide hbw
    clear hown hbw
    by_cases hlt : j < s.size
    · have HT := hide (take_next s j hlt)
      by_cases hq : s[j] = c
      · have q : ((s[j].toNat : Int) == C) = true := by rw [HC.out, byte_eq, decide_eq_true hq]
        have HN : Hid (cutAt c (s.data.toList.take (j + 1)) = (done ++ [(s.data.toList.take j).drop k]) ++ [(s.data.toList.take (j + 1)).drop (j + 1)]) := hide (by
          have e : (s.data.toList.take (j + 1)).drop (j + 1) = [] := List.drop_eq_nil_of_le (by rw [List.length_take]; omega)
          rw [e, HT.out, hq]
          exact cut_here c _ done _ HD.out)
        have HE := hide (ext_str s k j)
        have hz := HBR.out.size
        have hown := HO.out
        have hln : done.length ≤ 1000000 := by have := HL.out; omega
        have hkz : (0 : Int) ≤ (k : Int) := by omega
        have hkj : (k : Int) ≤ (j : Int) := by omega
        have hjs : (j : Int) ≤ (s.size : Int) := by omega
        obtain ⟨X, hX⟩ : ∃ X, s.extract k j = X := ⟨_, rfl⟩
        have HX : Hid (X = str ((s.data.toList.take j).drop k)) := hide (hX ▸ HE.out)
        clear hq
        go_wp2_with (at_builtin; rw [HX.out]; refine wp_oneS (l := done) (p := (s.data.toList.take j).drop k) rfl _ _ rfl rfl rfl rfl hown hz hln ?_; intro v3 w3 hown3 hb3)
        have HO3 := hide hown3
        have HB3 := hide (HBR.out.trans hb3)
        clear hown hown3 hb3 hz hln
        go_wp2_with fail
        go_roundw
        case rel => exact ⟨j + 1, j + 1, _, by omega, Nat.le_refl _, by go_num, by go_num, HO3.out, HN, hide (by rw [List.length_append]; have := HL.out; simp; omega), HB3.out⟩
        case measure => simp [intOf]; omega
      · have q : ((s[j].toNat : Int) == C) = false := by rw [HC.out, byte_eq, decide_eq_false hq]
        have HN : Hid (cutAt c (s.data.toList.take (j + 1)) = done ++ [(s.data.toList.take (j + 1)).drop k]) := hide (by
          rw [HT.out, List.drop_append_of_le_length (by rw [List.length_take]; simp; omega)]
          exact cut_there c _ hq _ done _ HD.out)
        clear hq
        go_wp2_with fail
        go_roundw
        case rel => exact ⟨j + 1, k, done, by omega, by omega, by go_num, rfl, HO.out, HN, hide (by have := HL.out; omega), HBR.out⟩
        case measure => simp [intOf]; omega
    · obtain rfl : j = s.size := by omega
      have HF : Hid (cutAt c s.data.toList = done ++ [s.data.toList.drop k]) := hide (by
        have := HD.out
        rw [List.take_of_length_le (by simp)] at this
        exact this)
      have HE := hide (ext_end s k)
      have hz := HBR.out.size
      have hown := HO.out
      have hln : done.length ≤ 1000000 := by have := HL.out; omega
      have hkz : (0 : Int) ≤ (k : Int) := by omega
      have hkj : (k : Int) ≤ (s.size : Int) := by omega
      obtain ⟨X, hX⟩ : ∃ X, s.extract k s.size = X := ⟨_, rfl⟩
      have HX : Hid (X = str (s.data.toList.drop k)) := hide (hX ▸ HE.out)
      go_wp2_with (at_builtin; rw [HX.out]; refine wp_oneS (l := done) (p := s.data.toList.drop k) rfl _ _ rfl rfl rfl rfl hown hz hln ?_; intro v3 w3 hown3 hb3)
      have HO3 := hide hown3
      have HB3 := hide (HBR.out.trans hb3)
      clear hown hown3 hb3 hz hln
      go_wp2_with fail
      go_ret
      exact ⟨_, rfl, by rw [HF.out]; exact HO3.out, HB3.out⟩

/-- what Dec answers. -/
def decA (t : Tx) (b : Bool) : Value := .tuple #[.int .i64 ((decR t b).getD 0), .bool (decR t b).isSome]
theorem decA_none {t : Tx} {b : Bool} (h : decR t b = none) : decA t b = .tuple #[.int .i64 0, .bool false] := by unfold decA; rw [h]; rfl
theorem decA_some {t : Tx} {b : Bool} {n : Int} (h : decR t b = some n) : decA t b = .tuple #[.int .i64 n, .bool true] := by unfold decA; rw [h]; rfl
theorem mag_of (t : Tx) (neg : Bool) (h1 : 1 ≤ t.length) (h8 : t.length ≤ 8) (h0 : (t.head? == some 48 && (decide (1 < t.length) || neg)) = false) : magR t neg = t.all dgt := by
  unfold magR
  rw [decide_eq_true h1, decide_eq_true h8, h0]; rfl
theorem all_not (s : ByteArray) (k : Nat) (h : k < s.size) (hd : dgt s[k] = false) : s.data.toList.all dgt = false := by
  rw [Bool.eq_false_iff]
  intro ha
  rw [List.all_eq_true] at ha
  have := ha s[k] (by simp [ByteArray.getElem_eq_getElem_data])
  rw [hd] at this
  cases this
theorem dgt_no (c : UInt8) (h : (c.toNat : Int) < 48 ∨ 57 < (c.toNat : Int)) : dgt c = false := by
  rw [Bool.eq_false_iff]; intro hc; rw [dgt_iff] at hc; omega
theorem dgt_yes (c : UInt8) (h1 : ¬ (c.toNat : Int) < 48) (h2 : ¬ 57 < (c.toNat : Int)) : dgt c = true := by rw [dgt_iff]; omega
theorem vl_small (t : Tx) (k : Nat) (hk : k ≤ 8) (h : (t.take k).all dgt = true) : vl (t.take k) < 100000000 := by
  have h1 := vl_lt _ _ rfl h
  have h2 : (t.take k).length ≤ 8 := by rw [List.length_take]; omega
  have h3 : (10 : Nat) ^ (t.take k).length ≤ 10 ^ 8 := Nat.pow_le_pow_right (by omega) h2
  omega
theorem head_at (s : ByteArray) (h : 0 < s.size) : s.data.toList.head? = some s[0] := by
  have hl : 0 < s.data.toList.length := by simpa using h
  rw [List.head?_eq_getElem?, List.getElem?_eq_getElem hl]; rfl

set_option maxRecDepth 100000 in
set_option maxHeartbeats 2000000 in
theorem rDec_neg (s : ByteArray) (b : Bool) (w : World) (hs : s.size ≤ 100000) (hm : minusB s.data.toList b = true):
    Calls Tryz.prog 48 #[.string s, .bool b] w fun e w' => e = .returned (decA s.data.toList b) ∧ w = w' := by
  have hmm := hm
  unfold minusB at hmm
  simp only [Bool.and_eq_true, decide_eq_true_eq, beq_iff_eq] at hmm
  obtain ⟨hb, hl2, hh⟩ := hmm
  subst hb
  have hl1 : 1 < s.size := by simpa using hl2
  have hq : ((s[0].toNat : Int) == 45) = true := by
    rw [head_at s (by omega)] at hh
    injection hh with hh
    rw [hh]; rfl
  obtain ⟨T, hT⟩ : ∃ T, s.extract 1 s.size = T := ⟨_, rfl⟩
  have hTl : T.data.toList = s.data.toList.tail := by rw [← hT, ext_end, str_list, List.drop_one]
  have hTs : T.size + 1 = s.size := by rw [← hT, ByteArray.size_extract]; omega
  have HR : Hid (decR s.data.toList true = if magR T.data.toList true = true then some (-(vl T.data.toList : Int)) else none) := hide (by unfold decR; rw [if_pos hm, hTl])
  have g1 : (1 : Int) < (s.size : Int) := by omega
  have g0 : (0 : Int) ≤ (s.size : Int) := by omega
  clear hm hl2 hh hTl
  have h1 : ¬ T.size < 1 := by omega
  have z1 : ¬ (T.size : Int) < 1 := by omega
  by_cases h8 : 8 < T.size
  · have hmag : magR T.data.toList true = false := by unfold magR; rw [decide_eq_true (by rw [len_of]; omega), decide_eq_false (by rw [len_of]; omega)]; rfl
    have HN : Hid (decR s.data.toList true = none) := hide (by rw [HR.out, if_neg (by rw [hmag]; simp)])
    have HA := hide (decA_none HN.out)
    have z8 : (8 : Int) < (T.size : Int) := by omega
    clear h1 h8 hmag
    go_enter Tryz.func48, Tryz.ntmps48
    go_wp2_with fail
    go_ret2
    exact ⟨by rw [HA.out]; rfl, rfl⟩
  have z8 : ¬ (8 : Int) < (T.size : Int) := by omega
  have z0 : 0 < T.size := by omega
  by_cases hc : T[0] = 48
  · have hmag : magR T.data.toList true = false := by unfold magR; rw [decide_eq_true (by rw [len_of]; omega), decide_eq_true (by rw [len_of]; omega), head_at T z0, hc]; simp
    have HN : Hid (decR s.data.toList true = none) := hide (by rw [HR.out, if_neg (by rw [hmag]; simp)])
    have HA := hide (decA_none HN.out)
    have hn : ((T[0].toNat : Int) == 48) = true := by rw [hc]; rfl
    clear hmag hc
    by_cases h2 : 1 < T.size
    · have z2 : (1 : Int) < (T.size : Int) := by omega
      go_enter Tryz.func48, Tryz.ntmps48
      go_wp2_with fail
      go_ret2
      exact ⟨by rw [HA.out]; rfl, rfl⟩
    · have z2 : ¬ (1 : Int) < (T.size : Int) := by omega
      go_enter Tryz.func48, Tryz.ntmps48
      go_wp2_with fail
      go_ret2
      exact ⟨by rw [HA.out]; rfl, rfl⟩
  · have h0 : (T.data.toList.head? == some 48 && (decide (1 < T.data.toList.length) || true)) = false := by rw [head_at T z0, Bool.and_eq_false_iff]; left; simpa using hc
    have hn : ((T[0].toNat : Int) == 48) = false := by rw [show (48 : Int) = ((48 : UInt8).toNat : Int) from rfl, byte_eq, decide_eq_false hc]
    clear hc
    have hmag : magR T.data.toList true = T.data.toList.all dgt := mag_of _ _ (by rw [len_of]; omega) (by rw [len_of]; omega) h0
    have HG := hide hmag
    clear hmag h0
    go_enter Tryz.func48, Tryz.ntmps48
    go_wp2_with fail
    go_loop [8, 9] (fun n i => ∃ k : Nat, k ≤ T.size ∧ i = .int .i64 k ∧ n = .int .i64 (vl (T.data.toList.take k) : Int) ∧ Hid ((T.data.toList.take k).all dgt = true)) (fun _ i => T.size - (intOf i).toNat)
    case atStart => exact ⟨0, Nat.zero_le _, rfl, rfl, hide rfl⟩
    case round =>
      obtain ⟨k, hk, rfl, rfl, HD⟩ := hrel
      by_cases hlt : k < T.size
      · have hu : (T[k].toNat : Int) ≤ 255 := by have := UInt8.toNat_lt T[k]; omega
        by_cases c1 : (T[k].toNat : Int) < 48
        · have HN : Hid (decR s.data.toList true = none) := hide (by rw [HR.out, HG.out, all_not T k hlt (dgt_no _ (Or.inl c1))]; rfl)
          have HA := hide (decA_none HN.out)
          go_wp2
          go_ret2
          exact ⟨by rw [HA.out]; rfl, rfl⟩
        · by_cases c2 : 57 < (T[k].toNat : Int)
          · have HN : Hid (decR s.data.toList true = none) := hide (by rw [HR.out, HG.out, all_not T k hlt (dgt_no _ (Or.inr c2))]; rfl)
            have HA := hide (decA_none HN.out)
            go_wp2
            go_ret2
            exact ⟨by rw [HA.out]; rfl, rfl⟩
          · have hv := vl_small T.data.toList k (by omega) HD.out
            have HN : Hid ((vl (T.data.toList.take (k + 1)) : Int) = 10 * (vl (T.data.toList.take k) : Int) + ((T[k].toNat : Int) - 48)) := hide (by rw [take_next T k hlt, vl_snoc]; omega)
            have HD2 : Hid ((T.data.toList.take (k + 1)).all dgt = true) := hide (by rw [take_next T k hlt, List.all_append, HD.out]; simp [dgt_yes _ c1 c2])
            generalize vl (T.data.toList.take k) = V at *
            go_wp2
            go_round
            case rel => exact ⟨k + 1, by omega, by go_num, by rw [HN.out], HD2⟩
            case measure => simp [intOf]; omega
      · obtain rfl : k = T.size := by omega
        have HF : Hid (T.data.toList.take T.size = T.data.toList) := hide (List.take_of_length_le (by simp))
        have hv := vl_small T.data.toList T.size (by omega) HD.out
        rw [HF.out] at HD hv ⊢
        have HN : Hid (decR s.data.toList true = some (-(vl T.data.toList : Int))) := hide (by rw [HR.out, HG.out, HD.out]; rfl)
        have HA := hide (decA_some HN.out)
        generalize vl T.data.toList = V at *
        go_wp2
        go_ret2
        exact ⟨by rw [HA.out]; rfl, rfl⟩

set_option maxRecDepth 100000 in
set_option maxHeartbeats 2000000 in
theorem rDec_a (s : ByteArray) (w : World) (hs : s.size ≤ 100000) :
    Calls Tryz.prog 48 #[.string s, .bool false] w fun e w' => e = .returned (decA s.data.toList false) ∧ w = w' := by
  have hm : minusB s.data.toList false = false := rfl
  have HR : Hid (decR s.data.toList false = if magR s.data.toList false = true then some (vl s.data.toList : Int) else none) := hide (by unfold decR; rw [if_neg (by rw [hm]; simp)])
  clear hm
  by_cases h1 : s.size < 1
  · have hmag : magR s.data.toList false = false := by unfold magR; rw [decide_eq_false (by rw [len_of]; omega)]; rfl
    have HN : Hid (decR s.data.toList false = none) := hide (by rw [HR.out, if_neg (by rw [hmag]; simp)])
    have HA := hide (decA_none HN.out)
    have z1 : (s.size : Int) < 1 := by omega
    clear h1 hmag
    go_enter Tryz.func48, Tryz.ntmps48
    go_wp2_with fail
    go_ret2
    exact ⟨by rw [HA.out]; rfl, rfl⟩
  have z1 : ¬ (s.size : Int) < 1 := by omega
  by_cases h8 : 8 < s.size
  · have hmag : magR s.data.toList false = false := by unfold magR; rw [decide_eq_true (by rw [len_of]; omega), decide_eq_false (by rw [len_of]; omega)]; rfl
    have HN : Hid (decR s.data.toList false = none) := hide (by rw [HR.out, if_neg (by rw [hmag]; simp)])
    have HA := hide (decA_none HN.out)
    have z8 : (8 : Int) < (s.size : Int) := by omega
    clear h1 h8 hmag
    go_enter Tryz.func48, Tryz.ntmps48
    go_wp2_with fail
    go_ret2
    exact ⟨by rw [HA.out]; rfl, rfl⟩
  have z8 : ¬ (8 : Int) < (s.size : Int) := by omega
  have z0 : 0 < s.size := by omega
  by_cases hc : s[0] = 48
  · have hn : ((s[0].toNat : Int) == 48) = true := by rw [hc]; rfl
    by_cases h2 : 1 < s.size
    · have hmag : magR s.data.toList false = false := by unfold magR; rw [decide_eq_true (by rw [len_of]; omega), decide_eq_true (by rw [len_of]; omega), head_at s z0, hc, decide_eq_true (by rw [len_of]; exact h2)]; simp
      have HN : Hid (decR s.data.toList false = none) := hide (by rw [HR.out, if_neg (by rw [hmag]; simp)])
      have HA := hide (decA_none HN.out)
      have z2 : (1 : Int) < (s.size : Int) := by omega
      clear hmag hc
      go_enter Tryz.func48, Tryz.ntmps48
      go_wp2_with fail
      go_ret2
      exact ⟨by rw [HA.out]; rfl, rfl⟩
    · have z2 : ¬ (1 : Int) < (s.size : Int) := by omega
      have h0 : (s.data.toList.head? == some 48 && (decide (1 < s.data.toList.length) || false)) = false := by rw [Bool.and_eq_false_iff]; right; rw [decide_eq_false (by rw [len_of]; exact h2)]; rfl
      clear hc
      have hmag : magR s.data.toList false = s.data.toList.all dgt := mag_of _ _ (by rw [len_of]; omega) (by rw [len_of]; omega) h0
      have HG := hide hmag
      clear hmag h0
      go_enter Tryz.func48, Tryz.ntmps48
      go_wp2_with fail
      go_loop [8, 9] (fun n i => ∃ k : Nat, k ≤ s.size ∧ i = .int .i64 k ∧ n = .int .i64 (vl (s.data.toList.take k) : Int) ∧ Hid ((s.data.toList.take k).all dgt = true)) (fun _ i => s.size - (intOf i).toNat)
      case atStart => exact ⟨0, Nat.zero_le _, rfl, rfl, hide rfl⟩
      case round =>
        obtain ⟨k, hk, rfl, rfl, HD⟩ := hrel
        by_cases hlt : k < s.size
        · have hu : (s[k].toNat : Int) ≤ 255 := by have := UInt8.toNat_lt s[k]; omega
          by_cases c1 : (s[k].toNat : Int) < 48
          · have HN : Hid (decR s.data.toList false = none) := hide (by rw [HR.out, HG.out, all_not s k hlt (dgt_no _ (Or.inl c1))]; rfl)
            have HA := hide (decA_none HN.out)
            go_wp2
            go_ret2
            exact ⟨by rw [HA.out]; rfl, rfl⟩
          · by_cases c2 : 57 < (s[k].toNat : Int)
            · have HN : Hid (decR s.data.toList false = none) := hide (by rw [HR.out, HG.out, all_not s k hlt (dgt_no _ (Or.inr c2))]; rfl)
              have HA := hide (decA_none HN.out)
              go_wp2
              go_ret2
              exact ⟨by rw [HA.out]; rfl, rfl⟩
            · have hv := vl_small s.data.toList k (by omega) HD.out
              have HN : Hid ((vl (s.data.toList.take (k + 1)) : Int) = 10 * (vl (s.data.toList.take k) : Int) + ((s[k].toNat : Int) - 48)) := hide (by rw [take_next s k hlt, vl_snoc]; omega)
              have HD2 : Hid ((s.data.toList.take (k + 1)).all dgt = true) := hide (by rw [take_next s k hlt, List.all_append, HD.out]; simp [dgt_yes _ c1 c2])
              generalize vl (s.data.toList.take k) = V at *
              go_wp2
              go_round
              case rel => exact ⟨k + 1, by omega, by go_num, by rw [HN.out], HD2⟩
              case measure => simp [intOf]; omega
        · obtain rfl : k = s.size := by omega
          have HF : Hid (s.data.toList.take s.size = s.data.toList) := hide (List.take_of_length_le (by simp))
          have hv := vl_small s.data.toList s.size (by omega) HD.out
          rw [HF.out] at HD hv ⊢
          have HN : Hid (decR s.data.toList false = some (vl s.data.toList : Int)) := hide (by rw [HR.out, HG.out, HD.out]; rfl)
          have HA := hide (decA_some HN.out)
          generalize vl s.data.toList = V at *
          go_wp2
          go_ret2
          exact ⟨by rw [HA.out]; rfl, rfl⟩
  · have h0 : (s.data.toList.head? == some 48 && (decide (1 < s.data.toList.length) || false)) = false := by rw [head_at s z0, Bool.and_eq_false_iff]; left; simpa using hc
    have hn : ((s[0].toNat : Int) == 48) = false := by rw [show (48 : Int) = ((48 : UInt8).toNat : Int) from rfl, byte_eq, decide_eq_false hc]
    clear hc
    have hmag : magR s.data.toList false = s.data.toList.all dgt := mag_of _ _ (by rw [len_of]; omega) (by rw [len_of]; omega) h0
    have HG := hide hmag
    clear hmag h0
    go_enter Tryz.func48, Tryz.ntmps48
    go_wp2_with fail
    go_loop [8, 9] (fun n i => ∃ k : Nat, k ≤ s.size ∧ i = .int .i64 k ∧ n = .int .i64 (vl (s.data.toList.take k) : Int) ∧ Hid ((s.data.toList.take k).all dgt = true)) (fun _ i => s.size - (intOf i).toNat)
    case atStart => exact ⟨0, Nat.zero_le _, rfl, rfl, hide rfl⟩
    case round =>
      obtain ⟨k, hk, rfl, rfl, HD⟩ := hrel
      by_cases hlt : k < s.size
      · have hu : (s[k].toNat : Int) ≤ 255 := by have := UInt8.toNat_lt s[k]; omega
        by_cases c1 : (s[k].toNat : Int) < 48
        · have HN : Hid (decR s.data.toList false = none) := hide (by rw [HR.out, HG.out, all_not s k hlt (dgt_no _ (Or.inl c1))]; rfl)
          have HA := hide (decA_none HN.out)
          go_wp2
          go_ret2
          exact ⟨by rw [HA.out]; rfl, rfl⟩
        · by_cases c2 : 57 < (s[k].toNat : Int)
          · have HN : Hid (decR s.data.toList false = none) := hide (by rw [HR.out, HG.out, all_not s k hlt (dgt_no _ (Or.inr c2))]; rfl)
            have HA := hide (decA_none HN.out)
            go_wp2
            go_ret2
            exact ⟨by rw [HA.out]; rfl, rfl⟩
          · have hv := vl_small s.data.toList k (by omega) HD.out
            have HN : Hid ((vl (s.data.toList.take (k + 1)) : Int) = 10 * (vl (s.data.toList.take k) : Int) + ((s[k].toNat : Int) - 48)) := hide (by rw [take_next s k hlt, vl_snoc]; omega)
            have HD2 : Hid ((s.data.toList.take (k + 1)).all dgt = true) := hide (by rw [take_next s k hlt, List.all_append, HD.out]; simp [dgt_yes _ c1 c2])
            generalize vl (s.data.toList.take k) = V at *
            go_wp2
            go_round
            case rel => exact ⟨k + 1, by omega, by go_num, by rw [HN.out], HD2⟩
            case measure => simp [intOf]; omega
      · obtain rfl : k = s.size := by omega
        have HF : Hid (s.data.toList.take s.size = s.data.toList) := hide (List.take_of_length_le (by simp))
        have hv := vl_small s.data.toList s.size (by omega) HD.out
        rw [HF.out] at HD hv ⊢
        have HN : Hid (decR s.data.toList false = some (vl s.data.toList : Int)) := hide (by rw [HR.out, HG.out, HD.out]; rfl)
        have HA := hide (decA_some HN.out)
        generalize vl s.data.toList = V at *
        go_wp2
        go_ret2
        exact ⟨by rw [HA.out]; rfl, rfl⟩

set_option maxRecDepth 100000 in
set_option maxHeartbeats 2000000 in
theorem rDec_b (s : ByteArray) (w : World) (hs : s.size ≤ 100000) (hl : ¬ 1 < s.size) :
    Calls Tryz.prog 48 #[.string s, .bool true] w fun e w' => e = .returned (decA s.data.toList true) ∧ w = w' := by
  have hm : minusB s.data.toList true = false := by unfold minusB; rw [decide_eq_false (by rw [len_of]; exact hl)]; rfl
  have y1 : ¬ (1 : Int) < (s.size : Int) := by omega
  have HR : Hid (decR s.data.toList true = if magR s.data.toList false = true then some (vl s.data.toList : Int) else none) := hide (by unfold decR; rw [if_neg (by rw [hm]; simp)])
  clear hm
  by_cases h1 : s.size < 1
  · have hmag : magR s.data.toList false = false := by unfold magR; rw [decide_eq_false (by rw [len_of]; omega)]; rfl
    have HN : Hid (decR s.data.toList true = none) := hide (by rw [HR.out, if_neg (by rw [hmag]; simp)])
    have HA := hide (decA_none HN.out)
    have z1 : (s.size : Int) < 1 := by omega
    clear h1 hmag
    go_enter Tryz.func48, Tryz.ntmps48
    go_wp2_with fail
    go_ret2
    exact ⟨by rw [HA.out]; rfl, rfl⟩
  have z1 : ¬ (s.size : Int) < 1 := by omega
  by_cases h8 : 8 < s.size
  · have hmag : magR s.data.toList false = false := by unfold magR; rw [decide_eq_true (by rw [len_of]; omega), decide_eq_false (by rw [len_of]; omega)]; rfl
    have HN : Hid (decR s.data.toList true = none) := hide (by rw [HR.out, if_neg (by rw [hmag]; simp)])
    have HA := hide (decA_none HN.out)
    have z8 : (8 : Int) < (s.size : Int) := by omega
    clear h1 h8 hmag
    go_enter Tryz.func48, Tryz.ntmps48
    go_wp2_with fail
    go_ret2
    exact ⟨by rw [HA.out]; rfl, rfl⟩
  have z8 : ¬ (8 : Int) < (s.size : Int) := by omega
  have z0 : 0 < s.size := by omega
  by_cases hc : s[0] = 48
  · have hn : ((s[0].toNat : Int) == 48) = true := by rw [hc]; rfl
    by_cases h2 : 1 < s.size
    · exact absurd h2 hl
    · have z2 : ¬ (1 : Int) < (s.size : Int) := by omega
      have h0 : (s.data.toList.head? == some 48 && (decide (1 < s.data.toList.length) || false)) = false := by rw [Bool.and_eq_false_iff]; right; rw [decide_eq_false (by rw [len_of]; exact h2)]; rfl
      clear hc
      have hmag : magR s.data.toList false = s.data.toList.all dgt := mag_of _ _ (by rw [len_of]; omega) (by rw [len_of]; omega) h0
      have HG := hide hmag
      clear hmag h0
      go_enter Tryz.func48, Tryz.ntmps48
      go_wp2_with fail
      go_loop [8, 9] (fun n i => ∃ k : Nat, k ≤ s.size ∧ i = .int .i64 k ∧ n = .int .i64 (vl (s.data.toList.take k) : Int) ∧ Hid ((s.data.toList.take k).all dgt = true)) (fun _ i => s.size - (intOf i).toNat)
      case atStart => exact ⟨0, Nat.zero_le _, rfl, rfl, hide rfl⟩
      case round =>
        obtain ⟨k, hk, rfl, rfl, HD⟩ := hrel
        by_cases hlt : k < s.size
        · have hu : (s[k].toNat : Int) ≤ 255 := by have := UInt8.toNat_lt s[k]; omega
          by_cases c1 : (s[k].toNat : Int) < 48
          · have HN : Hid (decR s.data.toList true = none) := hide (by rw [HR.out, HG.out, all_not s k hlt (dgt_no _ (Or.inl c1))]; rfl)
            have HA := hide (decA_none HN.out)
            go_wp2
            go_ret2
            exact ⟨by rw [HA.out]; rfl, rfl⟩
          · by_cases c2 : 57 < (s[k].toNat : Int)
            · have HN : Hid (decR s.data.toList true = none) := hide (by rw [HR.out, HG.out, all_not s k hlt (dgt_no _ (Or.inr c2))]; rfl)
              have HA := hide (decA_none HN.out)
              go_wp2
              go_ret2
              exact ⟨by rw [HA.out]; rfl, rfl⟩
            · have hv := vl_small s.data.toList k (by omega) HD.out
              have HN : Hid ((vl (s.data.toList.take (k + 1)) : Int) = 10 * (vl (s.data.toList.take k) : Int) + ((s[k].toNat : Int) - 48)) := hide (by rw [take_next s k hlt, vl_snoc]; omega)
              have HD2 : Hid ((s.data.toList.take (k + 1)).all dgt = true) := hide (by rw [take_next s k hlt, List.all_append, HD.out]; simp [dgt_yes _ c1 c2])
              generalize vl (s.data.toList.take k) = V at *
              go_wp2
              go_round
              case rel => exact ⟨k + 1, by omega, by go_num, by rw [HN.out], HD2⟩
              case measure => simp [intOf]; omega
        · obtain rfl : k = s.size := by omega
          have HF : Hid (s.data.toList.take s.size = s.data.toList) := hide (List.take_of_length_le (by simp))
          have hv := vl_small s.data.toList s.size (by omega) HD.out
          rw [HF.out] at HD hv ⊢
          have HN : Hid (decR s.data.toList true = some (vl s.data.toList : Int)) := hide (by rw [HR.out, HG.out, HD.out]; rfl)
          have HA := hide (decA_some HN.out)
          generalize vl s.data.toList = V at *
          go_wp2
          go_ret2
          exact ⟨by rw [HA.out]; rfl, rfl⟩
  · have h0 : (s.data.toList.head? == some 48 && (decide (1 < s.data.toList.length) || false)) = false := by rw [head_at s z0, Bool.and_eq_false_iff]; left; simpa using hc
    have hn : ((s[0].toNat : Int) == 48) = false := by rw [show (48 : Int) = ((48 : UInt8).toNat : Int) from rfl, byte_eq, decide_eq_false hc]
    clear hc
    have hmag : magR s.data.toList false = s.data.toList.all dgt := mag_of _ _ (by rw [len_of]; omega) (by rw [len_of]; omega) h0
    have HG := hide hmag
    clear hmag h0
    go_enter Tryz.func48, Tryz.ntmps48
    go_wp2_with fail
    go_loop [8, 9] (fun n i => ∃ k : Nat, k ≤ s.size ∧ i = .int .i64 k ∧ n = .int .i64 (vl (s.data.toList.take k) : Int) ∧ Hid ((s.data.toList.take k).all dgt = true)) (fun _ i => s.size - (intOf i).toNat)
    case atStart => exact ⟨0, Nat.zero_le _, rfl, rfl, hide rfl⟩
    case round =>
      obtain ⟨k, hk, rfl, rfl, HD⟩ := hrel
      by_cases hlt : k < s.size
      · have hu : (s[k].toNat : Int) ≤ 255 := by have := UInt8.toNat_lt s[k]; omega
        by_cases c1 : (s[k].toNat : Int) < 48
        · have HN : Hid (decR s.data.toList true = none) := hide (by rw [HR.out, HG.out, all_not s k hlt (dgt_no _ (Or.inl c1))]; rfl)
          have HA := hide (decA_none HN.out)
          go_wp2
          go_ret2
          exact ⟨by rw [HA.out]; rfl, rfl⟩
        · by_cases c2 : 57 < (s[k].toNat : Int)
          · have HN : Hid (decR s.data.toList true = none) := hide (by rw [HR.out, HG.out, all_not s k hlt (dgt_no _ (Or.inr c2))]; rfl)
            have HA := hide (decA_none HN.out)
            go_wp2
            go_ret2
            exact ⟨by rw [HA.out]; rfl, rfl⟩
          · have hv := vl_small s.data.toList k (by omega) HD.out
            have HN : Hid ((vl (s.data.toList.take (k + 1)) : Int) = 10 * (vl (s.data.toList.take k) : Int) + ((s[k].toNat : Int) - 48)) := hide (by rw [take_next s k hlt, vl_snoc]; omega)
            have HD2 : Hid ((s.data.toList.take (k + 1)).all dgt = true) := hide (by rw [take_next s k hlt, List.all_append, HD.out]; simp [dgt_yes _ c1 c2])
            generalize vl (s.data.toList.take k) = V at *
            go_wp2
            go_round
            case rel => exact ⟨k + 1, by omega, by go_num, by rw [HN.out], HD2⟩
            case measure => simp [intOf]; omega
      · obtain rfl : k = s.size := by omega
        have HF : Hid (s.data.toList.take s.size = s.data.toList) := hide (List.take_of_length_le (by simp))
        have hv := vl_small s.data.toList s.size (by omega) HD.out
        rw [HF.out] at HD hv ⊢
        have HN : Hid (decR s.data.toList true = some (vl s.data.toList : Int)) := hide (by rw [HR.out, HG.out, HD.out]; rfl)
        have HA := hide (decA_some HN.out)
        generalize vl s.data.toList = V at *
        go_wp2
        go_ret2
        exact ⟨by rw [HA.out]; rfl, rfl⟩

set_option maxRecDepth 100000 in
set_option maxHeartbeats 2000000 in
theorem rDec_c (s : ByteArray) (w : World) (hs : s.size ≤ 100000) (hl : 1 < s.size) (hq : s[0] ≠ 45) :
    Calls Tryz.prog 48 #[.string s, .bool true] w fun e w' => e = .returned (decA s.data.toList true) ∧ w = w' := by
  have hm : minusB s.data.toList true = false := by unfold minusB; rw [head_at s (by omega), Bool.and_eq_false_iff, Bool.and_eq_false_iff]; right; right; simpa using hq
  have y1 : (1 : Int) < (s.size : Int) := by omega
  have yq : ((s[0].toNat : Int) == 45) = false := by rw [show (45 : Int) = ((45 : UInt8).toNat : Int) from rfl, byte_eq, decide_eq_false hq]
  clear hq
  have HR : Hid (decR s.data.toList true = if magR s.data.toList false = true then some (vl s.data.toList : Int) else none) := hide (by unfold decR; rw [if_neg (by rw [hm]; simp)])
  clear hm
  have h1 : ¬ s.size < 1 := by omega
  have z1 : ¬ (s.size : Int) < 1 := by omega
  by_cases h8 : 8 < s.size
  · have hmag : magR s.data.toList false = false := by unfold magR; rw [decide_eq_true (by rw [len_of]; omega), decide_eq_false (by rw [len_of]; omega)]; rfl
    have HN : Hid (decR s.data.toList true = none) := hide (by rw [HR.out, if_neg (by rw [hmag]; simp)])
    have HA := hide (decA_none HN.out)
    have z8 : (8 : Int) < (s.size : Int) := by omega
    clear h1 h8 hmag
    go_enter Tryz.func48, Tryz.ntmps48
    go_wp2_with fail
    go_ret2
    exact ⟨by rw [HA.out]; rfl, rfl⟩
  have z8 : ¬ (8 : Int) < (s.size : Int) := by omega
  have z0 : 0 < s.size := by omega
  by_cases hc : s[0] = 48
  · have hn : ((s[0].toNat : Int) == 48) = true := by rw [hc]; rfl
    have h2 : 1 < s.size := by omega
    have hmag : magR s.data.toList false = false := by unfold magR; rw [decide_eq_true (by rw [len_of]; omega), decide_eq_true (by rw [len_of]; omega), head_at s z0, hc, decide_eq_true (by rw [len_of]; exact h2)]; simp
    have HN : Hid (decR s.data.toList true = none) := hide (by rw [HR.out, if_neg (by rw [hmag]; simp)])
    have HA := hide (decA_none HN.out)
    have z2 : (1 : Int) < (s.size : Int) := by omega
    clear hmag hc
    go_enter Tryz.func48, Tryz.ntmps48
    go_wp2_with fail
    go_ret2
    exact ⟨by rw [HA.out]; rfl, rfl⟩
  · have h0 : (s.data.toList.head? == some 48 && (decide (1 < s.data.toList.length) || false)) = false := by rw [head_at s z0, Bool.and_eq_false_iff]; left; simpa using hc
    have hn : ((s[0].toNat : Int) == 48) = false := by rw [show (48 : Int) = ((48 : UInt8).toNat : Int) from rfl, byte_eq, decide_eq_false hc]
    clear hc
    have hmag : magR s.data.toList false = s.data.toList.all dgt := mag_of _ _ (by rw [len_of]; omega) (by rw [len_of]; omega) h0
    have HG := hide hmag
    clear hmag h0
    go_enter Tryz.func48, Tryz.ntmps48
    go_wp2_with fail
    go_loop [8, 9] (fun n i => ∃ k : Nat, k ≤ s.size ∧ i = .int .i64 k ∧ n = .int .i64 (vl (s.data.toList.take k) : Int) ∧ Hid ((s.data.toList.take k).all dgt = true)) (fun _ i => s.size - (intOf i).toNat)
    case atStart => exact ⟨0, Nat.zero_le _, rfl, rfl, hide rfl⟩
    case round =>
      obtain ⟨k, hk, rfl, rfl, HD⟩ := hrel
      by_cases hlt : k < s.size
      · have hu : (s[k].toNat : Int) ≤ 255 := by have := UInt8.toNat_lt s[k]; omega
        by_cases c1 : (s[k].toNat : Int) < 48
        · have HN : Hid (decR s.data.toList true = none) := hide (by rw [HR.out, HG.out, all_not s k hlt (dgt_no _ (Or.inl c1))]; rfl)
          have HA := hide (decA_none HN.out)
          go_wp2
          go_ret2
          exact ⟨by rw [HA.out]; rfl, rfl⟩
        · by_cases c2 : 57 < (s[k].toNat : Int)
          · have HN : Hid (decR s.data.toList true = none) := hide (by rw [HR.out, HG.out, all_not s k hlt (dgt_no _ (Or.inr c2))]; rfl)
            have HA := hide (decA_none HN.out)
            go_wp2
            go_ret2
            exact ⟨by rw [HA.out]; rfl, rfl⟩
          · have hv := vl_small s.data.toList k (by omega) HD.out
            have HN : Hid ((vl (s.data.toList.take (k + 1)) : Int) = 10 * (vl (s.data.toList.take k) : Int) + ((s[k].toNat : Int) - 48)) := hide (by rw [take_next s k hlt, vl_snoc]; omega)
            have HD2 : Hid ((s.data.toList.take (k + 1)).all dgt = true) := hide (by rw [take_next s k hlt, List.all_append, HD.out]; simp [dgt_yes _ c1 c2])
            generalize vl (s.data.toList.take k) = V at *
            go_wp2
            go_round
            case rel => exact ⟨k + 1, by omega, by go_num, by rw [HN.out], HD2⟩
            case measure => simp [intOf]; omega
      · obtain rfl : k = s.size := by omega
        have HF : Hid (s.data.toList.take s.size = s.data.toList) := hide (List.take_of_length_le (by simp))
        have hv := vl_small s.data.toList s.size (by omega) HD.out
        rw [HF.out] at HD hv ⊢
        have HN : Hid (decR s.data.toList true = some (vl s.data.toList : Int)) := hide (by rw [HR.out, HG.out, HD.out]; rfl)
        have HA := hide (decA_some HN.out)
        generalize vl s.data.toList = V at *
        go_wp2
        go_ret2
        exact ⟨by rw [HA.out]; rfl, rfl⟩

theorem rDec_any (s : ByteArray) (b : Bool) (w : World) (hs : s.size ≤ 100000) :
    Calls Tryz.prog 48 #[.string s, .bool b] w fun e w' => e = .returned (decA s.data.toList b) ∧ w = w' := by
  cases hm : minusB s.data.toList b
  · cases b
    · exact rDec_a s w hs
    · by_cases hl : 1 < s.size
      · refine rDec_c s w hs hl fun e => ?_
        unfold minusB at hm
        rw [head_at s (by omega), e, decide_eq_true (by rw [len_of]; exact hl)] at hm
        cases hm
      · exact rDec_b s w hs hl
  · exact rDec_neg s b w hs hm

end Go.Proofs.YtffobailjdhijaaGreatDoor

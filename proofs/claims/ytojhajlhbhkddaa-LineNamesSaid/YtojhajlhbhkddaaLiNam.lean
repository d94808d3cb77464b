/- LineNames walked: names of twenty bytes, and one more; bytes that no name has. -/
import Derived.Test.YtojhajlhbhkddaaLiK
namespace Go.Proofs.Ytojhajlhbhkddaa
open Go.RowKit Rul Rt Fo Li Go.Sort

theorem bsC (p : Int) (w : World) : (Instr.buildSlice 33 1 #[(0, .int .u8 p)]).run Try.prog w = .ok (.slice (some ⟨w.heap.size, 0, none⟩) 1 1) (w.alloc (.cells #[.int .u8 p] 5)) := by kernel_rfl
theorem cvC (c : UInt8) (w : World) :
    (convert 33 9 (.slice (some ⟨w.heap.size, 0, none⟩) 1 1)).run Try.prog (w.alloc (.cells #[.int .u8 (c.toNat : Int)] 5)) = .ok (.string (str [c])) (w.alloc (.cells #[.int .u8 (c.toNat : Int)] 5)) :=
  run_convert_bytes_back (P := Try.prog) _ 33 9 5 ⟨w.heap.size, 0, none⟩ 1 [c] Try.underlying33 Try.underlying5 Try.underlying9 (fun j hj => by
    have hj2 : j = 0 := by simp at hj; omega
    subst hj2
    simp [Addr.add])
theorem split_one (c : UInt8) (b : Bool) (h : (inI (c.toNat : Int) || (decide (97 ≤ (c.toNat : Int)) && decide ((c.toNat : Int) ≤ 122))) = b) :
    ∃ P R : Tx, splA (lineE (c :: 58 :: [120])) = .tuple #[.string (str P), .string (str R), .int .i64 (if b = true then 0 else 14)] := by
  have e := line_one c [120]
  rw [h] at e
  cases ho : lineE (c :: 58 :: [120]) with
  | none => rw [ho] at e; cases e; exact ⟨[], [], rfl⟩
  | some p => rw [ho] at e; cases e; exact ⟨p.1, p.2, rfl⟩
theorem nameE_one (c : UInt8) : nameE [c] = inI (c.toNat : Int) := by
  rw [nameE_all _ (by simp) (by simp)]; simp [inN]
theorem nameE_Q (k : Nat) (h : 1 ≤ k) : nameE (List.replicate k 81) = decide ((k : Int) ≤ 20) := by
  by_cases h2 : k ≤ 20
  · rw [nameE_all _ (by rw [List.length_replicate]; exact h) (by rw [List.length_replicate]; exact h2), decide_eq_true (by omega : (k : Int) ≤ 20), List.all_eq_true]
    intro x hx
    rw [List.eq_of_mem_replicate hx]; decide
  · rw [nameE_long _ (by rw [List.length_replicate]; omega), decide_eq_false (by omega : ¬ (k : Int) ≤ 20)]

set_option maxRecDepth 100000 in
set_option maxHeartbeats 4000000 in
theorem lnames_core (nn : Nat) (c : UInt8) (w : World) (he : Env w) (hn : nn ≤ 255) :
    Calls Try.prog 5 #[.int .u8 (nn : Int), .int .u8 (c.toNat : Int)] w (Ans w (.bool true)) := by
  have HE := hide he
  have HK := hide (lknown_any w he)
  clear he
  have hct : (nn : Int).tmod 3 = ((nn % 3 : Nat) : Int) := by rw [Int.tmod_eq_emod_of_nonneg (by omega)]; rfl
  obtain ⟨m, hm⟩ : ∃ m, nn % 3 = m := ⟨_, rfl⟩
  rw [hm] at hct
  have hm2 : (m : Int) ≤ 2 := by omega
  obtain ⟨k, hk⟩ : ∃ k, 19 + m = k := ⟨_, rfl⟩
  have hki : (19 : Int) + (m : Int) = (k : Int) := by omega
  have hk1 : 1 ≤ k := by omega
  have hk2 : k ≤ 21 := by omega
  clear hk
  have hbs := bsC
  have hcv := cvC c
  obtain ⟨C, hC⟩ : ∃ C : Int, (c.toNat : Int) = C := ⟨_, rfl⟩
  have C0 : 0 ≤ C := by omega
  have C1 : C ≤ 255 := by have := c.toNat_lt; omega
  have hso := split_one c
  have hno := nameE_one c
  rw [hC] at hso hno hcv
  have HS : Hid (∀ (w : World), Env w → ∀ A, splA (lineE (c :: 58 :: [120])) = A → Calls Try.prog 7 #[.string (str [c] ++ str [58, 120])] w (Ans w A)) := hide (fun w he A h => h ▸ split_at (str [c] ++ str [58, 120]) _ w he (by rw [ByteArray.size_append, str_size, str_size]; simp) (by rw [str_app, str_list]; rfl))
  have HN1 : Hid (∀ (w : World) (b : Bool), inI C = b → Calls Try.prog 9 #[.string (str [c])] w (Ans w (.bool b))) := hide (fun w b h => name_at (str [c]) b w (by rw [str_size]; simp) (by rw [str_list, hno]; exact h))
  have HN2 : Hid (∀ (w : World) (b : Bool), decide ((k : Int) ≤ 20) = b → ∀ O, O = str (List.replicate k 81) → Calls Try.prog 9 #[.string O] w (Ans w (.bool b))) := hide (fun w b h O hO => hO ▸ name_at (str (List.replicate k 81)) b w (by rw [str_size, List.length_replicate]; omega) (by rw [str_list, nameE_Q k hk1]; exact h))
  have HN3 := hide (fun w => name_at (str []) false w (by rw [str_size]; exact Nat.zero_le _) (by rw [str_list]; rfl))
  have hz1 : (str [c]).size = 1 := by rw [str_size]; rfl
  have HMB : Hid (∀ w : World, Below w.heap.size w (w.alloc (.cells #[.int .u8 C] 5))) := hide (fun w => more (start w) _)
  rw [hC]
  clear hno hC hk1 hm
  go_enter Try.func5, Try.ntmps5
  go_wp2_with fail
  refine (HK.out).mono ?_
  rintro e w1 ⟨rfl, hb1⟩
  have HB := hide hb1
  clear hb1
  go_wp2_with fail
  go_loopw [6, 7] (fun s i wr => ∃ (j : Nat) (O : ByteArray), j ≤ k ∧ i = .int .i64 j ∧ s = .string O ∧ Hid (O = str (List.replicate j 81)) ∧ O.size = j ∧ wr = w1) (fun _ i _ => k - (intOf i).toNat)
  case atStart => exact ⟨0, ByteArray.empty, Nat.zero_le _, rfl, rfl, hide rfl, rfl, rfl⟩
  case round =>
    obtain ⟨j, O, hj, rfl, rfl, HO, hOs, rfl⟩ := hrel
    by_cases hlt : j < k
    · have hi0 : (0 : Int) ≤ (j : Int) := by omega
      have hi1 : (j : Int) < (k : Int) := by omega
      have hO2 : O.size ≤ 21 := by omega
      have HN : Hid (O ++ str [81] = str (List.replicate (j + 1) 81)) := hide (by rw [HO.out, str_app, List.replicate_succ'])
      have hOn : (O ++ str [81]).size = j + 1 := by rw [ByteArray.size_append, hOs, str_size]; rfl
      clear hOs
      go_wp2_with fail
      go_roundw
      case rel => exact ⟨j + 1, _, by omega, by go_num, rfl, HN, hOn, by trivial⟩
      case measure => simp [intOf]; omega
    · obtain rfl : j = k := by omega
      by_cases h1 : 65 ≤ C <;> by_cases h2 : C ≤ 90 <;> by_cases h3 : 48 ≤ C <;> by_cases h4 : C ≤ 57 <;> by_cases h5 : C = 45 <;> by_cases h6 : 97 ≤ C <;> by_cases h7 : C ≤ 122 <;> by_cases h20 : (j : Int) ≤ 20 <;> first | (exfalso; omega) | skip
      all_goals (first | have d1 := decide_eq_false h1 | have d1 := decide_eq_true h1)
      all_goals (first | have d2 := decide_eq_false h2 | have d2 := decide_eq_true h2)
      all_goals (first | have d3 := decide_eq_false h3 | have d3 := decide_eq_true h3)
      all_goals (first | have d4 := decide_eq_false h4 | have d4 := decide_eq_true h4)
      all_goals (first | have d5 := beq_eq_false_iff_ne.2 h5 | have d5 := beq_iff_eq.2 h5)
      all_goals (first | have d6 := decide_eq_false h6 | have d6 := decide_eq_true h6)
      all_goals (first | have d7 := decide_eq_false h7 | have d7 := decide_eq_true h7)
      all_goals (first | have d20 := decide_eq_false h20 | have d20 := decide_eq_true h20)
      all_goals (first | have HI := (inI_iff C).2 (by omega) | have HI := inI_no C (by omega))
      all_goals rw [HI, d6, d7] at hso
      all_goals obtain ⟨P, R, hPR⟩ := hso _ rfl
      all_goals replace HS := hide (fun w he => HS.out w he _ hPR)
      all_goals (have A1 := hide (fun w => HN1.out w _ HI); have A2 := hide (fun w => HN2.out w _ d20 O HO.out))
      all_goals simp only [Bool.or_true, Bool.or_false, Bool.and_true, Bool.and_false, if_true, Bool.false_eq_true, if_false] at HS
      all_goals clear hso hPR HI h5
      all_goals
        go_wp2_with fail
        refine (HS.out _ (HE.out.keep (andthen HB.out ((HMB.out _))))).mono ?_
        rintro e w2 ⟨rfl, hb2⟩
        replace HB := hide (andthen (andthen HB.out (HMB.out _)) hb2)
        clear hb2
        go_wp2_with fail
        refine (A2.out _).mono ?_
        rintro e w3 ⟨rfl, hb3⟩
        replace HB := hide (andthen HB.out hb3)
        clear hb3
        go_wp2_with fail
        refine (A1.out _).mono ?_
        rintro e w4 ⟨rfl, hb4⟩
        replace HB := hide (andthen HB.out hb4)
        clear hb4
        go_wp2_with fail
        refine (HN3.out _).mono ?_
        rintro e w5 ⟨rfl, hb5⟩
        replace HB := hide (andthen HB.out hb5)
        clear hb5
        go_wp2_with fail
        go_ret
        exact ⟨rfl, HB.out⟩

theorem lnames_any (x y : Int) (w : World) (he : Env w) (x0 : 0 ≤ x) (x1 : x ≤ 255) (y0 : 0 ≤ y) (y1 : y ≤ 255) :
    Calls Try.prog 5 #[.int .u8 x, .int .u8 y] w (Ans w (.bool true)) := by
  have := lnames_core x.toNat (UInt8.ofNat y.toNat) w he (by omega)
  have ey : ((UInt8.ofNat y.toNat).toNat : Int) = y := by rw [UInt8.toNat_ofNat']; omega
  rw [ey, Int.toNat_of_nonneg x0] at this
  exact this

end Go.Proofs.Ytojhajlhbhkddaa

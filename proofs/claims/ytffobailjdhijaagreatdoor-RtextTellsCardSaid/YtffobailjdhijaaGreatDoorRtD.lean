/- Walks of the document's texts: the words of frequencies, of weekdays; numbers with commas between. -/
import Derived.Test.YtffobailjdhijaaGreatDoorRtC
namespace Go.Proofs.YtffobailjdhijaaGreatDoor
open Go.RowKit Rul Rt Go.Sort

set_option maxHeartbeats 400000 in
theorem rfreq_1 (w : World) : Calls Tryz.prog 34 #[.int .i64 1] w (Ans w (.string (str (freqT 1)))) := by
  have ix : ∀ w, (Instr.index 92 (.agg #[.string ⟨#[]⟩, .string ⟨#[68, 65, 73, 76, 89]⟩, .string ⟨#[87, 69, 69, 75, 76, 89]⟩, .string ⟨#[77, 79, 78, 84, 72, 76, 89]⟩, .string ⟨#[89, 69, 65, 82, 76, 89]⟩]) (.int .i64 1)).run Tryz.prog w = .ok (.string ⟨#[68, 65, 73, 76, 89]⟩) w := fun _ => by kernel_rfl
  go_enter Tryz.func34, Tryz.ntmps34
  go_wp2_with fail
  go_ret
  exact ⟨rfl, start _⟩
set_option maxHeartbeats 400000 in
theorem rfreq_2 (w : World) : Calls Tryz.prog 34 #[.int .i64 2] w (Ans w (.string (str (freqT 2)))) := by
  have ix : ∀ w, (Instr.index 92 (.agg #[.string ⟨#[]⟩, .string ⟨#[68, 65, 73, 76, 89]⟩, .string ⟨#[87, 69, 69, 75, 76, 89]⟩, .string ⟨#[77, 79, 78, 84, 72, 76, 89]⟩, .string ⟨#[89, 69, 65, 82, 76, 89]⟩]) (.int .i64 2)).run Tryz.prog w = .ok (.string ⟨#[87, 69, 69, 75, 76, 89]⟩) w := fun _ => by kernel_rfl
  go_enter Tryz.func34, Tryz.ntmps34
  go_wp2_with fail
  go_ret
  exact ⟨rfl, start _⟩
set_option maxHeartbeats 400000 in
theorem rfreq_3 (w : World) : Calls Tryz.prog 34 #[.int .i64 3] w (Ans w (.string (str (freqT 3)))) := by
  have ix : ∀ w, (Instr.index 92 (.agg #[.string ⟨#[]⟩, .string ⟨#[68, 65, 73, 76, 89]⟩, .string ⟨#[87, 69, 69, 75, 76, 89]⟩, .string ⟨#[77, 79, 78, 84, 72, 76, 89]⟩, .string ⟨#[89, 69, 65, 82, 76, 89]⟩]) (.int .i64 3)).run Tryz.prog w = .ok (.string ⟨#[77, 79, 78, 84, 72, 76, 89]⟩) w := fun _ => by kernel_rfl
  go_enter Tryz.func34, Tryz.ntmps34
  go_wp2_with fail
  go_ret
  exact ⟨rfl, start _⟩
set_option maxHeartbeats 400000 in
theorem rfreq_4 (w : World) : Calls Tryz.prog 34 #[.int .i64 4] w (Ans w (.string (str (freqT 4)))) := by
  have ix : ∀ w, (Instr.index 92 (.agg #[.string ⟨#[]⟩, .string ⟨#[68, 65, 73, 76, 89]⟩, .string ⟨#[87, 69, 69, 75, 76, 89]⟩, .string ⟨#[77, 79, 78, 84, 72, 76, 89]⟩, .string ⟨#[89, 69, 65, 82, 76, 89]⟩]) (.int .i64 4)).run Tryz.prog w = .ok (.string ⟨#[89, 69, 65, 82, 76, 89]⟩) w := fun _ => by kernel_rfl
  go_enter Tryz.func34, Tryz.ntmps34
  go_wp2_with fail
  go_ret
  exact ⟨rfl, start _⟩
theorem rfreq_any (n : Int) (w : World) (h1 : 1 ≤ n) (h2 : n ≤ 4) : Calls Tryz.prog 34 #[.int .i64 n] w (Ans w (.string (str (freqT n)))) := by
  rcases (by omega : n = 1 ∨ n = 2 ∨ n = 3 ∨ n = 4) with rfl | rfl | rfl | rfl
  · exact rfreq_1 w
  · exact rfreq_2 w
  · exact rfreq_3 w
  · exact rfreq_4 w

set_option maxRecDepth 100000 in
set_option maxHeartbeats 1000000 in
theorem rDay_0z  (w : World) : Calls Tryz.prog 15 #[.agg #[.int .i64 0, .int .i64 0]] w (Ans w (.string (str (dayT (0, 0))))) := by
  have hx : (⟨#[77, 79, 84, 85, 87, 69, 84, 72, 70, 82, 83, 65, 83, 85]⟩ : ByteArray).extract 0 2 = ⟨#[77, 79]⟩ := by decide +kernel
  go_enter Tryz.func15, Tryz.ntmps15
  go_wp2_with fail
  go_ret
  exact ⟨rfl, more (start _) _⟩
set_option maxRecDepth 100000 in
set_option maxHeartbeats 1000000 in
theorem rDay_0n (n : Int) (w : World) (h0 : ¬ n = 0) (b1 : -1000000000 ≤ n) (b2 : n ≤ 1000000000) : Calls Tryz.prog 15 #[.agg #[.int .i64 n, .int .i64 0]] w (Ans w (.string (str (dayT (n, 0))))) := by
  have hx : (⟨#[77, 79, 84, 85, 87, 69, 84, 72, 70, 82, 83, 65, 83, 85]⟩ : ByteArray).extract 0 2 = ⟨#[77, 79]⟩ := by decide +kernel
  have hd : Hid (dayT (n, 0) = Lib.itoa n ++ [77, 79]) := hide (by unfold dayT; rw [if_pos (by simp), if_neg h0]; rfl)
  have hq : (n == 0) = false := by rw [beq_eq_false_iff_ne]; exact h0
  have hsz : (str (Lib.itoa n)).size ≤ 30 := by rw [str_size]; exact Nat.le_trans (Lib.itoa_length_le n (by omega) (by omega)) (by omega)
  have HC := hide (fun w => rNum_any n w b1 b2)
  generalize Lib.itoa n = L at *
  clear h0
  go_enter Tryz.func15, Tryz.ntmps15
  go_wp2_with fail
  refine (HC.out _).mono ?_
  rintro e w2 ⟨rfl, hb⟩
  go_wp2_with fail
  go_ret
  exact ⟨ret_str (by rw [hd.out, ← str_app]; rfl), andthen (more (start w) _) hb⟩
set_option maxRecDepth 100000 in
set_option maxHeartbeats 1000000 in
theorem rDay_1z  (w : World) : Calls Tryz.prog 15 #[.agg #[.int .i64 0, .int .i64 1]] w (Ans w (.string (str (dayT (0, 1))))) := by
  have hx : (⟨#[77, 79, 84, 85, 87, 69, 84, 72, 70, 82, 83, 65, 83, 85]⟩ : ByteArray).extract 2 4 = ⟨#[84, 85]⟩ := by decide +kernel
  go_enter Tryz.func15, Tryz.ntmps15
  go_wp2_with fail
  go_ret
  exact ⟨rfl, more (start _) _⟩
set_option maxRecDepth 100000 in
set_option maxHeartbeats 1000000 in
theorem rDay_1n (n : Int) (w : World) (h0 : ¬ n = 0) (b1 : -1000000000 ≤ n) (b2 : n ≤ 1000000000) : Calls Tryz.prog 15 #[.agg #[.int .i64 n, .int .i64 1]] w (Ans w (.string (str (dayT (n, 1))))) := by
  have hx : (⟨#[77, 79, 84, 85, 87, 69, 84, 72, 70, 82, 83, 65, 83, 85]⟩ : ByteArray).extract 2 4 = ⟨#[84, 85]⟩ := by decide +kernel
  have hd : Hid (dayT (n, 1) = Lib.itoa n ++ [84, 85]) := hide (by unfold dayT; rw [if_pos (by simp), if_neg h0]; rfl)
  have hq : (n == 0) = false := by rw [beq_eq_false_iff_ne]; exact h0
  have hsz : (str (Lib.itoa n)).size ≤ 30 := by rw [str_size]; exact Nat.le_trans (Lib.itoa_length_le n (by omega) (by omega)) (by omega)
  have HC := hide (fun w => rNum_any n w b1 b2)
  generalize Lib.itoa n = L at *
  clear h0
  go_enter Tryz.func15, Tryz.ntmps15
  go_wp2_with fail
  refine (HC.out _).mono ?_
  rintro e w2 ⟨rfl, hb⟩
  go_wp2_with fail
  go_ret
  exact ⟨ret_str (by rw [hd.out, ← str_app]; rfl), andthen (more (start w) _) hb⟩
set_option maxRecDepth 100000 in
set_option maxHeartbeats 1000000 in
theorem rDay_2z  (w : World) : Calls Tryz.prog 15 #[.agg #[.int .i64 0, .int .i64 2]] w (Ans w (.string (str (dayT (0, 2))))) := by
  have hx : (⟨#[77, 79, 84, 85, 87, 69, 84, 72, 70, 82, 83, 65, 83, 85]⟩ : ByteArray).extract 4 6 = ⟨#[87, 69]⟩ := by decide +kernel
  go_enter Tryz.func15, Tryz.ntmps15
  go_wp2_with fail
  go_ret
  exact ⟨rfl, more (start _) _⟩
set_option maxRecDepth 100000 in
set_option maxHeartbeats 1000000 in
theorem rDay_2n (n : Int) (w : World) (h0 : ¬ n = 0) (b1 : -1000000000 ≤ n) (b2 : n ≤ 1000000000) : Calls Tryz.prog 15 #[.agg #[.int .i64 n, .int .i64 2]] w (Ans w (.string (str (dayT (n, 2))))) := by
  have hx : (⟨#[77, 79, 84, 85, 87, 69, 84, 72, 70, 82, 83, 65, 83, 85]⟩ : ByteArray).extract 4 6 = ⟨#[87, 69]⟩ := by decide +kernel
  have hd : Hid (dayT (n, 2) = Lib.itoa n ++ [87, 69]) := hide (by unfold dayT; rw [if_pos (by simp), if_neg h0]; rfl)
  have hq : (n == 0) = false := by rw [beq_eq_false_iff_ne]; exact h0
  have hsz : (str (Lib.itoa n)).size ≤ 30 := by rw [str_size]; exact Nat.le_trans (Lib.itoa_length_le n (by omega) (by omega)) (by omega)
  have HC := hide (fun w => rNum_any n w b1 b2)
  generalize Lib.itoa n = L at *
  clear h0
  go_enter Tryz.func15, Tryz.ntmps15
  go_wp2_with fail
  refine (HC.out _).mono ?_
  rintro e w2 ⟨rfl, hb⟩
  go_wp2_with fail
  go_ret
  exact ⟨ret_str (by rw [hd.out, ← str_app]; rfl), andthen (more (start w) _) hb⟩
set_option maxRecDepth 100000 in
set_option maxHeartbeats 1000000 in
theorem rDay_3z  (w : World) : Calls Tryz.prog 15 #[.agg #[.int .i64 0, .int .i64 3]] w (Ans w (.string (str (dayT (0, 3))))) := by
  have hx : (⟨#[77, 79, 84, 85, 87, 69, 84, 72, 70, 82, 83, 65, 83, 85]⟩ : ByteArray).extract 6 8 = ⟨#[84, 72]⟩ := by decide +kernel
  go_enter Tryz.func15, Tryz.ntmps15
  go_wp2_with fail
  go_ret
  exact ⟨rfl, more (start _) _⟩
set_option maxRecDepth 100000 in
set_option maxHeartbeats 1000000 in
theorem rDay_3n (n : Int) (w : World) (h0 : ¬ n = 0) (b1 : -1000000000 ≤ n) (b2 : n ≤ 1000000000) : Calls Tryz.prog 15 #[.agg #[.int .i64 n, .int .i64 3]] w (Ans w (.string (str (dayT (n, 3))))) := by
  have hx : (⟨#[77, 79, 84, 85, 87, 69, 84, 72, 70, 82, 83, 65, 83, 85]⟩ : ByteArray).extract 6 8 = ⟨#[84, 72]⟩ := by decide +kernel
  have hd : Hid (dayT (n, 3) = Lib.itoa n ++ [84, 72]) := hide (by unfold dayT; rw [if_pos (by simp), if_neg h0]; rfl)
  have hq : (n == 0) = false := by rw [beq_eq_false_iff_ne]; exact h0
  have hsz : (str (Lib.itoa n)).size ≤ 30 := by rw [str_size]; exact Nat.le_trans (Lib.itoa_length_le n (by omega) (by omega)) (by omega)
  have HC := hide (fun w => rNum_any n w b1 b2)
  generalize Lib.itoa n = L at *
  clear h0
  go_enter Tryz.func15, Tryz.ntmps15
  go_wp2_with fail
  refine (HC.out _).mono ?_
  rintro e w2 ⟨rfl, hb⟩
  go_wp2_with fail
  go_ret
  exact ⟨ret_str (by rw [hd.out, ← str_app]; rfl), andthen (more (start w) _) hb⟩
set_option maxRecDepth 100000 in
set_option maxHeartbeats 1000000 in
theorem rDay_4z  (w : World) : Calls Tryz.prog 15 #[.agg #[.int .i64 0, .int .i64 4]] w (Ans w (.string (str (dayT (0, 4))))) := by
  have hx : (⟨#[77, 79, 84, 85, 87, 69, 84, 72, 70, 82, 83, 65, 83, 85]⟩ : ByteArray).extract 8 10 = ⟨#[70, 82]⟩ := by decide +kernel
  go_enter Tryz.func15, Tryz.ntmps15
  go_wp2_with fail
  go_ret
  exact ⟨rfl, more (start _) _⟩
set_option maxRecDepth 100000 in
set_option maxHeartbeats 1000000 in
theorem rDay_4n (n : Int) (w : World) (h0 : ¬ n = 0) (b1 : -1000000000 ≤ n) (b2 : n ≤ 1000000000) : Calls Tryz.prog 15 #[.agg #[.int .i64 n, .int .i64 4]] w (Ans w (.string (str (dayT (n, 4))))) := by
  have hx : (⟨#[77, 79, 84, 85, 87, 69, 84, 72, 70, 82, 83, 65, 83, 85]⟩ : ByteArray).extract 8 10 = ⟨#[70, 82]⟩ := by decide +kernel
  have hd : Hid (dayT (n, 4) = Lib.itoa n ++ [70, 82]) := hide (by unfold dayT; rw [if_pos (by simp), if_neg h0]; rfl)
  have hq : (n == 0) = false := by rw [beq_eq_false_iff_ne]; exact h0
  have hsz : (str (Lib.itoa n)).size ≤ 30 := by rw [str_size]; exact Nat.le_trans (Lib.itoa_length_le n (by omega) (by omega)) (by omega)
  have HC := hide (fun w => rNum_any n w b1 b2)
  generalize Lib.itoa n = L at *
  clear h0
  go_enter Tryz.func15, Tryz.ntmps15
  go_wp2_with fail
  refine (HC.out _).mono ?_
  rintro e w2 ⟨rfl, hb⟩
  go_wp2_with fail
  go_ret
  exact ⟨ret_str (by rw [hd.out, ← str_app]; rfl), andthen (more (start w) _) hb⟩
set_option maxRecDepth 100000 in
set_option maxHeartbeats 1000000 in
theorem rDay_5z  (w : World) : Calls Tryz.prog 15 #[.agg #[.int .i64 0, .int .i64 5]] w (Ans w (.string (str (dayT (0, 5))))) := by
  have hx : (⟨#[77, 79, 84, 85, 87, 69, 84, 72, 70, 82, 83, 65, 83, 85]⟩ : ByteArray).extract 10 12 = ⟨#[83, 65]⟩ := by decide +kernel
  go_enter Tryz.func15, Tryz.ntmps15
  go_wp2_with fail
  go_ret
  exact ⟨rfl, more (start _) _⟩
set_option maxRecDepth 100000 in
set_option maxHeartbeats 1000000 in
theorem rDay_5n (n : Int) (w : World) (h0 : ¬ n = 0) (b1 : -1000000000 ≤ n) (b2 : n ≤ 1000000000) : Calls Tryz.prog 15 #[.agg #[.int .i64 n, .int .i64 5]] w (Ans w (.string (str (dayT (n, 5))))) := by
  have hx : (⟨#[77, 79, 84, 85, 87, 69, 84, 72, 70, 82, 83, 65, 83, 85]⟩ : ByteArray).extract 10 12 = ⟨#[83, 65]⟩ := by decide +kernel
  have hd : Hid (dayT (n, 5) = Lib.itoa n ++ [83, 65]) := hide (by unfold dayT; rw [if_pos (by simp), if_neg h0]; rfl)
  have hq : (n == 0) = false := by rw [beq_eq_false_iff_ne]; exact h0
  have hsz : (str (Lib.itoa n)).size ≤ 30 := by rw [str_size]; exact Nat.le_trans (Lib.itoa_length_le n (by omega) (by omega)) (by omega)
  have HC := hide (fun w => rNum_any n w b1 b2)
  generalize Lib.itoa n = L at *
  clear h0
  go_enter Tryz.func15, Tryz.ntmps15
  go_wp2_with fail
  refine (HC.out _).mono ?_
  rintro e w2 ⟨rfl, hb⟩
  go_wp2_with fail
  go_ret
  exact ⟨ret_str (by rw [hd.out, ← str_app]; rfl), andthen (more (start w) _) hb⟩
set_option maxRecDepth 100000 in
set_option maxHeartbeats 1000000 in
theorem rDay_6z  (w : World) : Calls Tryz.prog 15 #[.agg #[.int .i64 0, .int .i64 6]] w (Ans w (.string (str (dayT (0, 6))))) := by
  have hx : (⟨#[77, 79, 84, 85, 87, 69, 84, 72, 70, 82, 83, 65, 83, 85]⟩ : ByteArray).extract 12 14 = ⟨#[83, 85]⟩ := by decide +kernel
  go_enter Tryz.func15, Tryz.ntmps15
  go_wp2_with fail
  go_ret
  exact ⟨rfl, more (start _) _⟩
set_option maxRecDepth 100000 in
set_option maxHeartbeats 1000000 in
theorem rDay_6n (n : Int) (w : World) (h0 : ¬ n = 0) (b1 : -1000000000 ≤ n) (b2 : n ≤ 1000000000) : Calls Tryz.prog 15 #[.agg #[.int .i64 n, .int .i64 6]] w (Ans w (.string (str (dayT (n, 6))))) := by
  have hx : (⟨#[77, 79, 84, 85, 87, 69, 84, 72, 70, 82, 83, 65, 83, 85]⟩ : ByteArray).extract 12 14 = ⟨#[83, 85]⟩ := by decide +kernel
  have hd : Hid (dayT (n, 6) = Lib.itoa n ++ [83, 85]) := hide (by unfold dayT; rw [if_pos (by simp), if_neg h0]; rfl)
  have hq : (n == 0) = false := by rw [beq_eq_false_iff_ne]; exact h0
  have hsz : (str (Lib.itoa n)).size ≤ 30 := by rw [str_size]; exact Nat.le_trans (Lib.itoa_length_le n (by omega) (by omega)) (by omega)
  have HC := hide (fun w => rNum_any n w b1 b2)
  generalize Lib.itoa n = L at *
  clear h0
  go_enter Tryz.func15, Tryz.ntmps15
  go_wp2_with fail
  refine (HC.out _).mono ?_
  rintro e w2 ⟨rfl, hb⟩
  go_wp2_with fail
  go_ret
  exact ⟨ret_str (by rw [hd.out, ← str_app]; rfl), andthen (more (start w) _) hb⟩
set_option maxHeartbeats 400000 in
theorem rDay_low (n d : Int) (w : World) (h : d < 0) : Calls Tryz.prog 15 #[.agg #[.int .i64 n, .int .i64 d]] w (Ans w (.string (str (dayT (n, d))))) := by
  have hd : Hid (dayT (n, d) = []) := hide (by unfold dayT; rw [if_neg (by simp only; omega)])
  go_enter Tryz.func15, Tryz.ntmps15
  go_wp2_with fail
  go_ret
  exact ⟨by rw [hd.out]; rfl, more (start _) _⟩
set_option maxHeartbeats 400000 in
theorem rDay_high (n d : Int) (w : World) (h : 6 < d) : Calls Tryz.prog 15 #[.agg #[.int .i64 n, .int .i64 d]] w (Ans w (.string (str (dayT (n, d))))) := by
  have hd : Hid (dayT (n, d) = []) := hide (by unfold dayT; rw [if_neg (by simp only; omega)])
  have h2 : decide (d < 0) = false := decide_eq_false (by omega)
  go_enter Tryz.func15, Tryz.ntmps15
  go_wp2_with fail
  go_ret
  exact ⟨by rw [hd.out]; rfl, more (start _) _⟩
theorem rDay_any (n d : Int) (w : World) (b1 : -1000000000 ≤ n) (b2 : n ≤ 1000000000) : Calls Tryz.prog 15 #[.agg #[.int .i64 n, .int .i64 d]] w (Ans w (.string (str (dayT (n, d))))) := by
  by_cases hl : d < 0
  · exact rDay_low n d w hl
  by_cases hh : 6 < d
  · exact rDay_high n d w hh
  by_cases h0 : n = 0
  · subst h0
    rcases (by omega : d = 0 ∨ d = 1 ∨ d = 2 ∨ d = 3 ∨ d = 4 ∨ d = 5 ∨ d = 6) with rfl | rfl | rfl | rfl | rfl | rfl | rfl
    · exact rDay_0z w
    · exact rDay_1z w
    · exact rDay_2z w
    · exact rDay_3z w
    · exact rDay_4z w
    · exact rDay_5z w
    · exact rDay_6z w
  · rcases (by omega : d = 0 ∨ d = 1 ∨ d = 2 ∨ d = 3 ∨ d = 4 ∨ d = 5 ∨ d = 6) with rfl | rfl | rfl | rfl | rfl | rfl | rfl
    · exact rDay_0n n w h0 b1 b2
    · exact rDay_1n n w h0 b1 b2
    · exact rDay_2n n w h0 b1 b2
    · exact rDay_3n n w h0 b1 b2
    · exact rDay_4n n w h0 b1 b2
    · exact rDay_5n n w h0 b1 b2
    · exact rDay_6n n w h0 b1 b2

/-- what is joined so far, one element more. -/
theorem listT_snoc {α : Type} (f : α → Tx) (l : List α) (x : α) (h : l ≠ []) : listT f (l ++ [x]) = listT f l ++ [44] ++ f x := by
  unfold listT
  rw [List.map_append, List.map_singleton, join_snoc 44 _ _ (by simpa using h)]; simp
theorem listT_one {α : Type} (f : α → Tx) (x : α) : listT f [x] = f x := rfl
theorem join_len (c : UInt8) (K : Nat) : ∀ ps : List Tx, (∀ p ∈ ps, p.length ≤ K) → (joinAt c ps).length ≤ ps.length * (K + 1)
  | [], _ => by simp [joinAt]
  | [p], h => by have := h p (by simp); simp [joinAt]; omega
  | p :: q :: r, h => by
    have h1 := h p (by simp)
    have h2 := join_len c K (q :: r) fun x hx => h x (List.mem_cons_of_mem _ hx)
    rw [joinAt, List.length_append, List.length_cons, List.length_cons (a := p), Nat.succ_mul]
    omega
theorem listT_len {α : Type} (f : α → Tx) (K : Nat) (l : List α) (h : ∀ x ∈ l, (f x).length ≤ K) : (listT f l).length ≤ l.length * (K + 1) := by
  have := join_len 44 K (l.map f) fun p hp => by
    obtain ⟨x, hx, rfl⟩ := List.mem_map.1 hp; exact h x hx
  rwa [List.length_map] at this

set_option maxRecDepth 100000 in
set_option maxHeartbeats 1000000 in
theorem numbers_any (A : Option Addr) (n c : Nat) (l : List Int) (w : World) (hl : RowI w A l) (hn : n = l.length) (hsz : l.length ≤ 1000) (hb : ∀ x ∈ l, -1000000000 ≤ x ∧ x ≤ 1000000000) :
    Calls Tryz.prog 36 #[.slice A n c] w (Ans w (.string (str (listT Lib.itoa l)))) := by
  subst hn
  have HR := hide hl
  have HB := hide hb
  have hc44 : (⟨#[44]⟩ : ByteArray) = str [44] := rfl
  clear hl hb
  go_enter Tryz.func36, Tryz.ntmps36
  go_wp2_with fail
  go_loopw [3, 4] (fun s i wr => ∃ j : Nat, j ≤ l.length ∧ i = .int .i64 j ∧ s = .string (str (listT Lib.itoa (l.take j))) ∧ Below w.heap.size w wr) (fun _ i _ => l.length - (intOf i).toNat)
  case atStart => exact ⟨0, Nat.zero_le _, rfl, rfl, start _⟩
  case round =>
    obtain ⟨j, hj, rfl, rfl, hbw⟩ := hrel
    have HBR := hide hbw
    clear hbw
    by_cases hlt : j < l.length
    · obtain ⟨b1, o1, rfl, hb1, hc1⟩ := HR.out (by intro h0; rw [h0] at hlt; exact absurd hlt (Nat.not_lt_zero _))
      obtain ⟨m, hm⟩ : ∃ m, l[j] = m := ⟨_, rfl⟩
      have hmr := HB.out l[j] (List.getElem_mem _)
      rw [hm] at hmr
      have p1 : wr.cell? ⟨b1, o1 + j, none⟩ = some (.int .i64 m) := by rw [← hm]; exact (HBR.out.cell (p := ⟨b1, _, none⟩) hb1).trans (hc1 j hlt)
      have hi0 : (0 : Int) ≤ (j : Int) := by omega
      have hi1 : (j : Int) < (l.length : Int) := by omega
      have hTK : l.take (j + 1) = l.take j ++ [m] := by rw [List.take_succ_eq_append_getElem hlt, hm]
      have hL : (listT Lib.itoa (l.take j)).length ≤ 31000 := by
        have h1 := listT_len Lib.itoa 30 (l.take j) fun x hx => Nat.le_trans (Lib.itoa_length_le x (by have := HB.out x (List.mem_of_mem_take hx); omega) (by have := HB.out x (List.mem_of_mem_take hx); omega)) (by omega)
        have h2 : (l.take j).length ≤ 1000 := by rw [List.length_take]; omega
        omega
      have hM : (str (Lib.itoa m)).size ≤ 30 := by rw [str_size]; exact Nat.le_trans (Lib.itoa_length_le m (by omega) (by omega)) (by omega)
      have h44 : (str [44]).size = 1 := rfl
      have HC := hide (fun w => rNum_any m w hmr.1 hmr.2)
      clear hc1 hm hmr
      by_cases h0 : j = 0
      · subst h0
        have HN : Hid (listT Lib.itoa (l.take (0 + 1)) = listT Lib.itoa (l.take 0) ++ Lib.itoa m) := hide (by rw [hTK]; rfl)
        have hS : (str (listT Lib.itoa (l.take 0))).size ≤ 31000 := by rw [str_size]; exact hL
        have p0 := p1
        rw [Nat.add_zero] at p0
        generalize listT Lib.itoa (l.take 0) = S at *
        generalize Lib.itoa m = M at *
        clear hTK hL
        go_wp2_with fail
        refine (HC.out _).mono ?_
        rintro e w2 ⟨rfl, hb⟩
        replace HBR := hide (andthen HBR.out hb)
        go_wp2_with fail
        go_roundw
        case rel => exact ⟨0 + 1, by omega, by go_num, by rw [HN.out, ← str_app], HBR.out⟩
        case measure => simp [intOf]; omega
      · have HN : Hid (listT Lib.itoa (l.take (j + 1)) = listT Lib.itoa (l.take j) ++ [44] ++ Lib.itoa m) := hide (by
          rw [hTK, listT_snoc _ _ _ (by intro e; have := congrArg List.length e; rw [List.length_take, List.length_nil] at this; omega)])
        have hS : (str (listT Lib.itoa (l.take j))).size ≤ 31000 := by rw [str_size]; exact hL
        have hj0 : (0 : Int) < (j : Int) := by omega
        have hS2 : (str (listT Lib.itoa (l.take j)) ++ str [44]).size ≤ 31001 := by rw [str_app, str_size, List.length_append]; simp only [List.length_cons, List.length_nil]; omega
        generalize listT Lib.itoa (l.take j) = S at *
        generalize Lib.itoa m = M at *
        clear hTK hL h0
        go_wp2_with fail
        refine (HC.out _).mono ?_
        rintro e w2 ⟨rfl, hb⟩
        replace HBR := hide (andthen HBR.out hb)
        go_wp2_with fail
        go_roundw
        case rel => exact ⟨j + 1, by omega, by go_num, by rw [HN.out, ← str_app, ← str_app], HBR.out⟩
        case measure => simp [intOf]; omega
    · obtain rfl : j = l.length := by omega
      have HF : Hid (l.take l.length = l) := hide List.take_length
      go_wp2_with fail
      go_ret
      exact ⟨by rw [HF.out]; rfl, HBR.out⟩

end Go.Proofs.YtffobailjdhijaaGreatDoor

/- RtextSpoilt walked. -/
import Derived.Test.YtffobailjdhijaaGreatDoorRtN
namespace Go.Proofs.YtffobailjdhijaaGreatDoor
open Go.RowKit Rul Rt Go.Sort

def bads : List Tx := [[], [70, 82, 69, 81, 61, 72, 79, 85, 82, 76, 89], [102, 114, 101, 113, 61, 68, 65, 73, 76, 89], [70, 82, 69, 81, 61, 68, 65, 73, 76, 89, 59, 73, 78, 84, 69, 82, 86, 65, 76, 61, 48], [70, 82, 69, 81, 61, 68, 65, 73, 76, 89, 59, 67, 79, 85, 78, 84, 61, 48, 49], [73, 78, 84, 69, 82, 86, 65, 76, 61, 50], [70, 82, 69, 81, 61, 68, 65, 73, 76, 89, 59, 67, 79, 85, 78, 84, 61, 51, 59, 85, 78, 84, 73, 76, 61, 50, 48, 50, 48, 48, 49, 48, 49, 84, 48, 48, 48, 48, 48, 48], [70, 82, 69, 81, 61, 68, 65, 73, 76, 89, 59, 66, 89, 68, 65, 89, 61, 49, 77, 79], [70, 82, 69, 81, 61, 87, 69, 69, 75, 76, 89, 59, 66, 89, 77, 79, 78, 84, 72, 68, 65, 89, 61, 49], [70, 82, 69, 81, 61, 68, 65, 73, 76, 89, 59, 66, 89, 77, 79, 78, 84, 72, 61, 49, 51], [70, 82, 69, 81, 61, 68, 65, 73, 76, 89, 59, 66, 89, 77, 79, 78, 84, 72, 61, 49, 44, 49], [70, 82, 69, 81, 61, 77, 79, 78, 84, 72, 76, 89, 59, 66, 89, 68, 65, 89, 61, 54, 77, 79], [70, 82, 69, 81, 61, 68, 65, 73, 76, 89, 59, 88, 61, 49], [70, 82, 69, 81, 61, 68, 65, 73, 76, 89, 59, 67, 79, 85, 78, 84], [70, 82, 69, 81, 61, 89, 69, 65, 82, 76, 89, 59, 66, 89, 68, 65, 89, 61, 77, 79], [70, 82, 69, 81, 61, 68, 65, 73, 76, 89, 59, 85, 78, 84, 73, 76, 61, 50, 48, 50, 48, 48, 50, 51, 48, 84, 48, 48, 48, 48, 48, 48]]
theorem bads_len : bads.length = 16 := by decide
theorem bads_short : ∀ t ∈ bads, t.length ≤ 100000 := by decide
theorem bads_none : ∀ t ∈ bads, ansC unU t = none := by decide +kernel
theorem bad_cell (w : World) (X : Nat) (hX : w.heap.size = X) : ∀ (i : Nat) (hi : i < bads.length), (w.alloc (.cells #[.string ⟨#[]⟩, .string ⟨#[70, 82, 69, 81, 61, 72, 79, 85, 82, 76, 89]⟩, .string ⟨#[102, 114, 101, 113, 61, 68, 65, 73, 76, 89]⟩, .string ⟨#[70, 82, 69, 81, 61, 68, 65, 73, 76, 89, 59, 73, 78, 84, 69, 82, 86, 65, 76, 61, 48]⟩, .string ⟨#[70, 82, 69, 81, 61, 68, 65, 73, 76, 89, 59, 67, 79, 85, 78, 84, 61, 48, 49]⟩, .string ⟨#[73, 78, 84, 69, 82, 86, 65, 76, 61, 50]⟩, .string ⟨#[70, 82, 69, 81, 61, 68, 65, 73, 76, 89, 59, 67, 79, 85, 78, 84, 61, 51, 59, 85, 78, 84, 73, 76, 61, 50, 48, 50, 48, 48, 49, 48, 49, 84, 48, 48, 48, 48, 48, 48]⟩, .string ⟨#[70, 82, 69, 81, 61, 68, 65, 73, 76, 89, 59, 66, 89, 68, 65, 89, 61, 49, 77, 79]⟩, .string ⟨#[70, 82, 69, 81, 61, 87, 69, 69, 75, 76, 89, 59, 66, 89, 77, 79, 78, 84, 72, 68, 65, 89, 61, 49]⟩, .string ⟨#[70, 82, 69, 81, 61, 68, 65, 73, 76, 89, 59, 66, 89, 77, 79, 78, 84, 72, 61, 49, 51]⟩, .string ⟨#[70, 82, 69, 81, 61, 68, 65, 73, 76, 89, 59, 66, 89, 77, 79, 78, 84, 72, 61, 49, 44, 49]⟩, .string ⟨#[70, 82, 69, 81, 61, 77, 79, 78, 84, 72, 76, 89, 59, 66, 89, 68, 65, 89, 61, 54, 77, 79]⟩, .string ⟨#[70, 82, 69, 81, 61, 68, 65, 73, 76, 89, 59, 88, 61, 49]⟩, .string ⟨#[70, 82, 69, 81, 61, 68, 65, 73, 76, 89, 59, 67, 79, 85, 78, 84]⟩, .string ⟨#[70, 82, 69, 81, 61, 89, 69, 65, 82, 76, 89, 59, 66, 89, 68, 65, 89, 61, 77, 79]⟩, .string ⟨#[70, 82, 69, 81, 61, 68, 65, 73, 76, 89, 59, 85, 78, 84, 73, 76, 61, 50, 48, 50, 48, 48, 50, 51, 48, 84, 48, 48, 48, 48, 48, 48]⟩] 42)).cell? ⟨X, i, none⟩ = some (.string (str bads[i])) := by
  subst hX
  intro i hi
  have h16 : i < 16 := by rw [bads_len] at hi; exact hi
  rw [World.cell?_alloc_at _ _ _ _ rfl]
  rcases i with _ | _ | _ | _ | _ | _ | _ | _ | _ | _ | _ | _ | _ | _ | _ | _ | i
  all_goals first | rfl | omega
/-- the count's text. -/
def cntT (n : Nat) : Tx := [70, 82, 69, 81, 61, 68, 65, 73, 76, 89, 59, 67, 79, 85, 78, 84, 61] ++ Lib.itoa (n : Int)
def cntR (n : Nat) : Option T := if 1 ≤ n ∧ n ≤ 40 then some ⟨1, 1, n, -1, [], [], []⟩ else none
theorem cnt_all : ∀ n < 256, ansC unU (cntT n) = cntR n := by decide +kernel
theorem cnt_len : ∀ n < 256, (cntT n).length ≤ 100000 ∧ (Lib.itoa (n : Int)).length ≤ 20 := by decide +kernel

set_option maxRecDepth 100000 in
set_option maxHeartbeats 4000000 in
theorem spoilt_any (x n : Int) (w : World) (he : Env w) (x1 : 0 ≤ x) (_x2 : x ≤ 255) (n1 : 0 ≤ n) (n2 : n ≤ 255) :
    Calls Tryz.prog 5 #[.int .u8 x, .int .u8 n] w (Ans w (.bool true)) := by
  have HE := hide he
  clear he
  obtain ⟨i, hi, hx⟩ : ∃ i : Nat, i < 16 ∧ x.tmod 16 = (i : Int) := ⟨(x % 16).toNat, by omega, by rw [Int.tmod_eq_emod_of_nonneg x1]; omega⟩
  obtain ⟨m, hm, rfl⟩ : ∃ m : Nat, m < 256 ∧ n = (m : Int) := ⟨n.toNat, by omega, by omega⟩
  have hib : i < bads.length := by rw [bads_len]; exact hi
  have HC := hide (fun w X hX => bad_cell w X hX i hib)
  have HN := hide (bads_none _ (List.getElem_mem hib))
  have HL := hide (bads_short _ (List.getElem_mem hib))
  obtain ⟨T, hT⟩ : ∃ T, bads[i] = T := ⟨_, rfl⟩
  rw [hT] at HC HN HL
  have HA := hide (cnt_all m hm)
  have HS := hide (cnt_len m hm)
  have hT2 : str (cntT m) = str ([70, 82, 69, 81, 61, 68, 65, 73, 76, 89, 59, 67, 79, 85, 78, 84, 61] ++ Lib.itoa (m : Int)) := rfl
  clear hT hib
  go_enter Tryz.func5, Tryz.ntmps5
  go_wp2_with fail
  refine (known_any _ HE.out).mono ?_
  rintro e w1 ⟨rfl, hb1⟩
  have HB := hide hb1
  clear hb1
  obtain ⟨X, hX⟩ : ∃ X, w1.heap.size = X := ⟨_, rfl⟩
  have c := HC.out w1 X hX
  have i0 : (0 : Int) ≤ (i : Int) := by omega
  have i1 : (i : Int) < 16 := by omega
  replace HB := hide (more HB.out (.cells #[.string ⟨#[]⟩, .string ⟨#[70, 82, 69, 81, 61, 72, 79, 85, 82, 76, 89]⟩, .string ⟨#[102, 114, 101, 113, 61, 68, 65, 73, 76, 89]⟩, .string ⟨#[70, 82, 69, 81, 61, 68, 65, 73, 76, 89, 59, 73, 78, 84, 69, 82, 86, 65, 76, 61, 48]⟩, .string ⟨#[70, 82, 69, 81, 61, 68, 65, 73, 76, 89, 59, 67, 79, 85, 78, 84, 61, 48, 49]⟩, .string ⟨#[73, 78, 84, 69, 82, 86, 65, 76, 61, 50]⟩, .string ⟨#[70, 82, 69, 81, 61, 68, 65, 73, 76, 89, 59, 67, 79, 85, 78, 84, 61, 51, 59, 85, 78, 84, 73, 76, 61, 50, 48, 50, 48, 48, 49, 48, 49, 84, 48, 48, 48, 48, 48, 48]⟩, .string ⟨#[70, 82, 69, 81, 61, 68, 65, 73, 76, 89, 59, 66, 89, 68, 65, 89, 61, 49, 77, 79]⟩, .string ⟨#[70, 82, 69, 81, 61, 87, 69, 69, 75, 76, 89, 59, 66, 89, 77, 79, 78, 84, 72, 68, 65, 89, 61, 49]⟩, .string ⟨#[70, 82, 69, 81, 61, 68, 65, 73, 76, 89, 59, 66, 89, 77, 79, 78, 84, 72, 61, 49, 51]⟩, .string ⟨#[70, 82, 69, 81, 61, 68, 65, 73, 76, 89, 59, 66, 89, 77, 79, 78, 84, 72, 61, 49, 44, 49]⟩, .string ⟨#[70, 82, 69, 81, 61, 77, 79, 78, 84, 72, 76, 89, 59, 66, 89, 68, 65, 89, 61, 54, 77, 79]⟩, .string ⟨#[70, 82, 69, 81, 61, 68, 65, 73, 76, 89, 59, 88, 61, 49]⟩, .string ⟨#[70, 82, 69, 81, 61, 68, 65, 73, 76, 89, 59, 67, 79, 85, 78, 84]⟩, .string ⟨#[70, 82, 69, 81, 61, 89, 69, 65, 82, 76, 89, 59, 66, 89, 68, 65, 89, 61, 77, 79]⟩, .string ⟨#[70, 82, 69, 81, 61, 68, 65, 73, 76, 89, 59, 85, 78, 84, 73, 76, 61, 50, 48, 50, 48, 48, 50, 51, 48, 84, 48, 48, 48, 48, 48, 48]⟩] 42))
  go_wp2_with fail
  refine (parse_none HN.out HL.out _ (HE.out.keep HB.out)).mono ?_
  rintro e w2 ⟨rfl, hb2⟩
  unfold noRule
  replace HB := hide (more (andthen HB.out hb2) (.cells #[.int .i64 0, .int .i64 0, .int .i64 0, .int .i64 0, .slice none 0 0, .slice none 0 0, .slice none 0 0] 25))
  clear hb2 c HC
  have HI := hide (fun w => rNum_any (m : Int) w (by omega) (by omega))
  obtain ⟨I, hI⟩ : ∃ I, Lib.itoa (m : Int) = I := ⟨_, rfl⟩
  have HCT : Hid (cntT m = [70, 82, 69, 81, 61, 68, 65, 73, 76, 89, 59, 67, 79, 85, 78, 84, 61] ++ I) := hide (by rw [← hI]; rfl)
  have hIl := HS.out.2
  have hCl := HS.out.1
  rw [HCT.out] at hCl HA
  rw [hI] at HI hIl
  have hsz : (str I).size ≤ 20 := by rw [str_size]; exact hIl
  clear HS hI hIl hT2 hX
  go_wp2_with fail
  refine (HI.out _).mono ?_
  rintro e w3 ⟨rfl, hb3⟩
  replace HB := hide (andthen HB.out hb3)
  clear hb3
  go_wp2_with fail
  have eS : (⟨#[70, 82, 69, 81, 61, 68, 65, 73, 76, 89, 59, 67, 79, 85, 78, 84, 61]⟩ : ByteArray) ++ str I = str ([70, 82, 69, 81, 61, 68, 65, 73, 76, 89, 59, 67, 79, 85, 78, 84, 61] ++ I) := by rw [← str_app]; rfl
  rw [eS]
  clear eS HI hsz hi hx i0 i1 HN HL
  by_cases h1 : 1 ≤ m
  · by_cases h2 : m ≤ 40
    · have hn : cntR m = some ⟨1, 1, m, -1, [], [], []⟩ := by unfold cntR; rw [if_pos ⟨h1, h2⟩]
      rw [hn] at HA
      have HP := hide (fun w he => parse_some HA.out hCl w he)
      have g1 : (1 : Int) ≤ (m : Int) := by omega
      have g2 : (m : Int) ≤ 40 := by omega
      clear hn hCl HCT
      refine (HP.out _ (HE.out.keep HB.out)).mono ?_
      rintro e w4 ⟨hb4, D, dc, M, mc, Y, yc, rfl, _⟩
      simp only [List.length_nil]
      obtain ⟨Z, hZ⟩ : ∃ Z, w4.heap.size = Z := ⟨_, rfl⟩
      have q := (box_cells w4 25 (.int .i64 1) (.int .i64 1) (.int .i64 m) (.int .i64 (-1)) (.slice D 0 dc) (.slice M 0 mc) (.slice Y 0 yc) hZ).2.2.1
      replace HB := hide (more (andthen HB.out hb4) (.cells #[.int .i64 1, .int .i64 1, .int .i64 m, .int .i64 (-1), .slice D 0 dc, .slice M 0 mc, .slice Y 0 yc] 25))
      clear hb4
      go_wp2_with fail
      go_ret
      exact ⟨rfl, HB.out⟩
    · have hn : cntR m = none := by unfold cntR; rw [if_neg (by omega)]
      rw [hn] at HA
      have HP := hide (fun w he => parse_none HA.out hCl w he)
      have g1 : (1 : Int) ≤ (m : Int) := by omega
      have g2 : ¬ (m : Int) ≤ 40 := by omega
      clear hn hCl HCT
      refine (HP.out _ (HE.out.keep HB.out)).mono ?_
      rintro e w4 ⟨rfl, hb4⟩
      unfold noRule
      replace HB := hide (more (andthen HB.out hb4) (.cells #[.int .i64 0, .int .i64 0, .int .i64 0, .int .i64 0, .slice none 0 0, .slice none 0 0, .slice none 0 0] 25))
      clear hb4
      go_wp2_with fail
      go_ret
      exact ⟨rfl, HB.out⟩
  · have hn : cntR m = none := by unfold cntR; rw [if_neg (by omega)]
    rw [hn] at HA
    have HP := hide (fun w he => parse_none HA.out hCl w he)
    have g1 : ¬ (1 : Int) ≤ (m : Int) := by omega
    clear hn hCl HCT
    refine (HP.out _ (HE.out.keep HB.out)).mono ?_
    rintro e w4 ⟨rfl, hb4⟩
    unfold noRule
    replace HB := hide (more (andthen HB.out hb4) (.cells #[.int .i64 0, .int .i64 0, .int .i64 0, .int .i64 0, .slice none 0 0, .slice none 0 0, .slice none 0 0] 25))
    clear hb4
    go_wp2_with fail
    go_ret
    exact ⟨rfl, HB.out⟩


end Go.Proofs.YtffobailjdhijaaGreatDoor

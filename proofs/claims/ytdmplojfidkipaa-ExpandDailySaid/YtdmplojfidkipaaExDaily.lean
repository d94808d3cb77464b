/- ExpandDaily walked. Written by recipes/ex6.py. -/
import Derived.Test.YtdmplojfidkipaaExK
namespace Go.Proofs.Ytdmplojfidkipaa
open Go.RowKit Rul Go.Sort Spn

theorem mul_bd (j : Nat) (ev : Int) (h : j < 40) (h1 : 1 ≤ ev) (h2 : ev ≤ 100) : 0 ≤ (j : Int) * ev ∧ (j : Int) * ev ≤ 4000 := by
  have a : 0 ≤ (j : Int) * ev := Int.mul_nonneg (by omega) (by omega)
  have b : (j : Int) * ev ≤ j * 100 := Int.mul_le_mul_of_nonneg_left h2 (by omega)
  omega
set_option maxRecDepth 100000 in
set_option maxHeartbeats 2000000 in
theorem daily_walk (x q n g s ev k : Int) (cN : Nat) (l : List (Int × Int)) (w : World) (_x0 : 0 ≤ x) (_x1 : x ≤ 4294967295) (_q0 : 0 ≤ q) (_q1 : q ≤ 255) (_n0 : 0 ≤ n) (_n1 : n ≤ 255) (_g0 : 0 ≤ g) (_g1 : g ≤ 65535)
    (hs : x % 26298000 = s) (he : q % 100 + 1 = ev) (hc : n % 40 + 1 = (cN : Int)) (hk : g % 10080 + 1 = k) (HS : Hid (spansE (dayR ev cN (-1)) s k [] = (l, 0))) (HLN : Hid (l.length = cN)) (HL : Hid (∀ j (h : j < l.length), l[j] = (s + (j : Int) * ev * 1440, s + (j : Int) * ev * 1440 + k))) :
    Calls Try.prog 5 #[.int .u32 x, .int .u8 q, .int .u8 n, .int .u16 g] w (Ans w (.bool true)) := by
  have t1 : x.tmod 26298000 = x % 26298000 := Int.tmod_eq_emod_of_nonneg (by omega)
  have t2 : q.tmod 100 = q % 100 := Int.tmod_eq_emod_of_nonneg (by omega)
  have t3 : n.tmod 40 = n % 40 := Int.tmod_eq_emod_of_nonneg (by omega)
  have t4 : g.tmod 10080 = g % 10080 := Int.tmod_eq_emod_of_nonneg (by omega)
  have q1 : ((cN : Int) != (cN : Int)) = false := by simp
  go_enter Try.func5, Try.ntmps5
  go_wp2_with fail
  refine (known_any _).mono ?_
  rintro e u1 ⟨rfl, hb⟩
  have HBX := hide hb
  clear hb
  replace HBX := hide (more HBX.out (.cells #[.int .i64 1, .int .i64 ev, .int .i64 cN, .int .i64 (-1), .slice none 0 0, .slice none 0 0, .slice none 0 0] 25))
  have s0 : (u1.alloc (.cells #[.int .i64 1, .int .i64 ev, .int .i64 cN, .int .i64 (-1), .slice none 0 0, .slice none 0 0, .slice none 0 0] 25)).cell? ⟨u1.heap.size, 0, none⟩ = some (.int .i64 1) := by rw [World.cell?_alloc_at _ _ _ _ rfl]; rfl
  have s1 : (u1.alloc (.cells #[.int .i64 1, .int .i64 ev, .int .i64 cN, .int .i64 (-1), .slice none 0 0, .slice none 0 0, .slice none 0 0] 25)).cell? ⟨u1.heap.size, 1, none⟩ = some (.int .i64 ev) := by rw [World.cell?_alloc_at _ _ _ _ rfl]; rfl
  have s2 : (u1.alloc (.cells #[.int .i64 1, .int .i64 ev, .int .i64 cN, .int .i64 (-1), .slice none 0 0, .slice none 0 0, .slice none 0 0] 25)).cell? ⟨u1.heap.size, 2, none⟩ = some (.int .i64 cN) := by rw [World.cell?_alloc_at _ _ _ _ rfl]; rfl
  have s3 : (u1.alloc (.cells #[.int .i64 1, .int .i64 ev, .int .i64 cN, .int .i64 (-1), .slice none 0 0, .slice none 0 0, .slice none 0 0] 25)).cell? ⟨u1.heap.size, 3, none⟩ = some (.int .i64 (-1)) := by rw [World.cell?_alloc_at _ _ _ _ rfl]; rfl
  have s4 : (u1.alloc (.cells #[.int .i64 1, .int .i64 ev, .int .i64 cN, .int .i64 (-1), .slice none 0 0, .slice none 0 0, .slice none 0 0] 25)).cell? ⟨u1.heap.size, 4, none⟩ = some (.slice none 0 0) := by rw [World.cell?_alloc_at _ _ _ _ rfl]; rfl
  have s5 : (u1.alloc (.cells #[.int .i64 1, .int .i64 ev, .int .i64 cN, .int .i64 (-1), .slice none 0 0, .slice none 0 0, .slice none 0 0] 25)).cell? ⟨u1.heap.size, 5, none⟩ = some (.slice none 0 0) := by rw [World.cell?_alloc_at _ _ _ _ rfl]; rfl
  have s6 : (u1.alloc (.cells #[.int .i64 1, .int .i64 ev, .int .i64 cN, .int .i64 (-1), .slice none 0 0, .slice none 0 0, .slice none 0 0] 25)).cell? ⟨u1.heap.size, 6, none⟩ = some (.slice none 0 0) := by rw [World.cell?_alloc_at _ _ _ _ rfl]; rfl
  go_wp2_with fail
  generalize (u1.alloc (.cells #[.int .i64 1, .int .i64 ev, .int .i64 cN, .int .i64 (-1), .slice none 0 0, .slice none 0 0, .slice none 0 0] 25)) = W at *
  generalize u1.heap.size = X at *
  refine (spans_code 1 ev cN (-1) none none none 0 0 0 0 0 0 [] [] [] s k none 0 0 [] _ (lies_once _) (RowI.nil _ _) rfl (by simp)).mono ?_
  rintro e u2 ⟨v1, rfl, hown, hb⟩
  rw [HS.out] at hown ⊢
  obtain ⟨A, cap, hv, hrow⟩ := hown.row
  rw [HLN.out] at hv
  subst hv
  have HR := hide hrow
  replace HBX := hide (andthen HBX.out hb)
  replace s0 := cell_keep hb s0
  replace s1 := cell_keep hb s1
  replace s2 := cell_keep hb s2
  replace s3 := cell_keep hb s3
  replace s4 := cell_keep hb s4
  replace s5 := cell_keep hb s5
  replace s6 := cell_keep hb s6
  clear hb hown hrow
  go_wp2_with fail
  generalize u2 = U at *
  go_loopw [14, 15] (fun i _ wr => ∃ j : Nat, j ≤ cN ∧ i = .int .i64 j ∧ Below U.heap.size U wr) (fun i _ _ => cN - (intOf i).toNat)
  case atStart => exact ⟨0, Nat.zero_le _, rfl, start _⟩
  case round =>
    obtain ⟨j, hj, rfl, hbw⟩ := hrel
    have HBR := hide hbw
    clear hbw
    by_cases hlt : j < cN
    · obtain ⟨b1, o1, rfl, hb1, hc1⟩ := HR.out (by intro h0; have := HLN.out; rw [h0] at this; simp at this; omega)
      obtain ⟨z, hz⟩ : ∃ z, (j : Int) * ev = z := ⟨_, rfl⟩
      have hz0 : 0 ≤ z ∧ z ≤ 4000 := by rw [← hz]; exact mul_bd j ev (by omega) (by omega) (by omega)
      have hjl : j < l.length := by rw [HLN.out]; exact hlt
      have hlj : l[j] = (s + z * 1440, s + z * 1440 + k) := by rw [← hz]; exact HL.out j hjl
      obtain ⟨p1, p2⟩ := hc1 j hjl
      rw [hlj] at p1 p2
      replace p1 := (HBR.out.cell (p := ⟨b1, _, none⟩) hb1).trans p1
      replace p2 := (HBR.out.cell (p := ⟨b1, _, none⟩) hb1).trans p2
      have hi0 : (0 : Int) ≤ (j : Int) := by omega
      have hi1 : (j : Int) < (cN : Int) := by omega
      clear hc1 hlj hjl
      replace s0 := cell_keep HBR.out s0
      replace s1 := cell_keep HBR.out s1
      replace s2 := cell_keep HBR.out s2
      replace s3 := cell_keep HBR.out s3
      replace s4 := cell_keep HBR.out s4
      replace s5 := cell_keep HBR.out s5
      replace s6 := cell_keep HBR.out s6
      go_wp2_with fail
      go_roundw
      case rel => exact ⟨j + 1, by omega, by go_num, HBR.out⟩
      case measure => simp [intOf]; omega
    · obtain rfl : j = cN := by omega
      go_wp2_with fail
      go_ret
      exact ⟨rfl, andthen HBX.out HBR.out⟩
theorem daily6_any (x q n g : Int) (w : World) (x0 : 0 ≤ x) (x1 : x ≤ 4294967295) (q0 : 0 ≤ q) (q1 : q ≤ 255) (n0 : 0 ≤ n) (n1 : n ≤ 255) (g0 : 0 ≤ g) (g1 : g ≤ 65535) :
    Calls Try.prog 5 #[.int .u32 x, .int .u8 q, .int .u8 n, .int .u16 g] w (Ans w (.bool true)) := by
  obtain ⟨s, hs⟩ : ∃ s, x % 26298000 = s := ⟨_, rfl⟩
  obtain ⟨ev, he⟩ : ∃ ev, q % 100 + 1 = ev := ⟨_, rfl⟩
  obtain ⟨cN, hc⟩ : ∃ cN : Nat, n % 40 + 1 = (cN : Int) := ⟨(n % 40 + 1).toNat, by omega⟩
  obtain ⟨k, hk⟩ : ∃ k, g % 10080 + 1 = k := ⟨_, rfl⟩
  have f : ev * ((cN : Int) - 1) ≤ 100 * ((cN : Int) - 1) := Int.mul_le_mul_of_nonneg_right (by omega) (by omega)
  have hS := daily_starts ev s cN (by omega) (by omega) (by omega) (by omega) (by omega) (by omega)
  have hr := dayR_rec ev cN (-1) (by omega) (by omega) (by omega) (by omega) (by omega) (by omega) (Or.inr rfl)
  have hP := spansE_ok (dayR ev cN (-1)) s k [] _ hr (by omega) (by omega) (by omega) (by omega) hS (fun m hm => by
    rw [List.mem_map] at hm
    obtain ⟨i, hi, rfl⟩ := hm
    rw [List.mem_range] at hi
    have := mul_bd i ev (by omega) (by omega) (by omega)
    rw [Int.mul_comm ev]
    omega)
  exact daily_walk x q n g s ev k cN _ w x0 x1 q0 q1 n0 n1 g0 g1 hs he hc hk (hide hP) (hide (by simp)) (hide fun j h => by simp [Int.mul_comm ev])

end Go.Proofs.Ytdmplojfidkipaa

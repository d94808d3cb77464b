/- ExpandMonthEnds walked. Written by recipes/ex12.py. -/
import Derived.Test.YtdmplojfidkipaaExK
import Derived.Test.YtdmplojfidkipaaExMathG
import Derived.Test.YtdmplojfidkipaaRefC
namespace Go.Proofs.Ytdmplojfidkipaa
open Go.RowKit Rul Go.Sort Spn

set_option maxRecDepth 100000 in
set_option maxHeartbeats 4000000 in
theorem mon_walk (x y n Y D q s : Int) (cN : Nat) (w : World) (_x0 : 0 ≤ x) (_x1 : x ≤ 255) (_y0 : 0 ≤ y) (_y1 : y ≤ 255) (_n0 : 0 ≤ n) (_n1 : n ≤ 255) (hY : 2000 + x % 40 = Y) (hD : y % 31 + 1 = D) (hc : n % 30 + 1 = (cN : Int)) (hq : q = 12 * (x % 40)) (HM0 : Hid (minE Y 1 D 9 0 = (s, 0)))
    (HS : Hid (startsE (monR cN) s [] = ((monL q D 100).take cN, 0))) (HLN : Hid (((monL q D 100).take cN).length = cN)) :
    Calls Try.prog 7 #[.int .u8 x, .int .u8 y, .int .u8 n] w (Ans w (.bool true)) := by
  have t1 : x.tmod 40 = x % 40 := Int.tmod_eq_emod_of_nonneg (by omega)
  have t2 : y.tmod 31 = y % 31 := Int.tmod_eq_emod_of_nonneg (by omega)
  have t3 : n.tmod 30 = n % 30 := Int.tmod_eq_emod_of_nonneg (by omega)
  have hq0 : 0 ≤ q := by omega
  have hq1 : q ≤ 468 := by omega
  have hq2 : q % 12 = 0 := by omega
  have hD0 : 1 ≤ D := by omega
  have hD1 : D ≤ 31 := by omega
  have q1 : ((cN : Int) != (cN : Int)) = false := by simp
  go_enter Try.func7, Try.ntmps7
  go_wp2_with fail
  refine (known_any _).mono ?_
  rintro e u1 ⟨rfl, hb⟩
  have HBX := hide (more hb (.cells #[.int .i64 Y, .int .i64 1, .int .i64 D] 49))
  clear hb
  have d0 : (u1.alloc (.cells #[.int .i64 Y, .int .i64 1, .int .i64 D] 49)).cell? ⟨u1.heap.size, 0, none⟩ = some (.int .i64 Y) := by rw [World.cell?_alloc_at _ _ _ _ rfl]; rfl
  have d1 : (u1.alloc (.cells #[.int .i64 Y, .int .i64 1, .int .i64 D] 49)).cell? ⟨u1.heap.size, 1, none⟩ = some (.int .i64 1) := by rw [World.cell?_alloc_at _ _ _ _ rfl]; rfl
  have d2 : (u1.alloc (.cells #[.int .i64 Y, .int .i64 1, .int .i64 D] 49)).cell? ⟨u1.heap.size, 2, none⟩ = some (.int .i64 D) := by rw [World.cell?_alloc_at _ _ _ _ rfl]; rfl
  go_wp2_with fail
  generalize u1.alloc (.cells #[.int .i64 Y, .int .i64 1, .int .i64 D] 49) = W1 at *
  generalize u1.heap.size = XD at *
  refine (rMinute_any Y 1 D 9 0 _).mono ?_
  rintro e u2 ⟨rfl, hb⟩
  rw [HM0.out]
  replace HBX := hide (andthen HBX.out hb)
  replace d0 := cell_keep hb d0
  replace d1 := cell_keep hb d1
  replace d2 := cell_keep hb d2
  clear hb
  have r0 : (u2.alloc (.cells #[.int .i64 3, .int .i64 1, .int .i64 cN, .int .i64 (-1), .slice none 0 0, .slice none 0 0, .slice none 0 0] 25)).cell? ⟨u2.heap.size, 0, none⟩ = some (.int .i64 3) := by rw [World.cell?_alloc_at _ _ _ _ rfl]; rfl
  have r1 : (u2.alloc (.cells #[.int .i64 3, .int .i64 1, .int .i64 cN, .int .i64 (-1), .slice none 0 0, .slice none 0 0, .slice none 0 0] 25)).cell? ⟨u2.heap.size, 1, none⟩ = some (.int .i64 1) := by rw [World.cell?_alloc_at _ _ _ _ rfl]; rfl
  have r2 : (u2.alloc (.cells #[.int .i64 3, .int .i64 1, .int .i64 cN, .int .i64 (-1), .slice none 0 0, .slice none 0 0, .slice none 0 0] 25)).cell? ⟨u2.heap.size, 2, none⟩ = some (.int .i64 cN) := by rw [World.cell?_alloc_at _ _ _ _ rfl]; rfl
  have r3 : (u2.alloc (.cells #[.int .i64 3, .int .i64 1, .int .i64 cN, .int .i64 (-1), .slice none 0 0, .slice none 0 0, .slice none 0 0] 25)).cell? ⟨u2.heap.size, 3, none⟩ = some (.int .i64 (-1)) := by rw [World.cell?_alloc_at _ _ _ _ rfl]; rfl
  have r4 : (u2.alloc (.cells #[.int .i64 3, .int .i64 1, .int .i64 cN, .int .i64 (-1), .slice none 0 0, .slice none 0 0, .slice none 0 0] 25)).cell? ⟨u2.heap.size, 4, none⟩ = some (.slice none 0 0) := by rw [World.cell?_alloc_at _ _ _ _ rfl]; rfl
  have r5 : (u2.alloc (.cells #[.int .i64 3, .int .i64 1, .int .i64 cN, .int .i64 (-1), .slice none 0 0, .slice none 0 0, .slice none 0 0] 25)).cell? ⟨u2.heap.size, 5, none⟩ = some (.slice none 0 0) := by rw [World.cell?_alloc_at _ _ _ _ rfl]; rfl
  have r6 : (u2.alloc (.cells #[.int .i64 3, .int .i64 1, .int .i64 cN, .int .i64 (-1), .slice none 0 0, .slice none 0 0, .slice none 0 0] 25)).cell? ⟨u2.heap.size, 6, none⟩ = some (.slice none 0 0) := by rw [World.cell?_alloc_at _ _ _ _ rfl]; rfl
  have hb := more (start u2) (.cells #[.int .i64 3, .int .i64 1, .int .i64 cN, .int .i64 (-1), .slice none 0 0, .slice none 0 0, .slice none 0 0] 25)
  replace d0 := cell_keep hb d0
  replace d1 := cell_keep hb d1
  replace d2 := cell_keep hb d2
  replace HBX := hide (andthen HBX.out hb)
  clear hb
  go_wp2_with fail
  generalize u2.alloc (.cells #[.int .i64 3, .int .i64 1, .int .i64 cN, .int .i64 (-1), .slice none 0 0, .slice none 0 0, .slice none 0 0] 25) = W2 at *
  generalize u2.heap.size = XR at *
  refine (starts_code 3 1 cN (-1) none none none 0 0 0 0 0 0 [] [] [] s none 0 0 [] _ (lies_once _) (RowI.nil _ _) rfl (by simp)).mono ?_
  rintro e u3 ⟨v1, rfl, hown, hb⟩
  rw [HS.out] at hown ⊢
  obtain ⟨A, cap, hv, hrow⟩ := hown.row
  rw [HLN.out] at hv
  subst hv
  have HR := hide hrow
  replace HBX := hide (andthen HBX.out hb)
  replace d0 := cell_keep hb d0
  replace d1 := cell_keep hb d1
  replace d2 := cell_keep hb d2
  replace r0 := cell_keep hb r0
  replace r1 := cell_keep hb r1
  replace r2 := cell_keep hb r2
  replace r3 := cell_keep hb r3
  replace r4 := cell_keep hb r4
  replace r5 := cell_keep hb r5
  replace r6 := cell_keep hb r6
  clear hb hown hrow
  go_wp2_with fail
  generalize u3 = U at *
  have d0w := d0
  have d1w := d1
  have d2w := d2
  go_loopw [13, 14, 15, 16, 17] (fun aa mm _ _ _ wr => ∃ j m : Nat, m ≤ 100 ∧ j ≤ cN ∧ (monL q D m).length = j ∧ aa = .int .i64 j ∧ mm = .int .i64 m ∧ Below U.heap.size U wr) (fun _ mm _ _ _ _ => 100 - (intOf mm).toNat)
  case atStart => exact ⟨0, 0, Nat.zero_le _, Nat.zero_le _, rfl, rfl, rfl, start _⟩
  case round =>
    obtain ⟨j, m, hm, hj, hjm, rfl, rfl, hbw⟩ := hrel
    have HBR := hide hbw
    clear hbw
    have HJM := hide hjm
    clear hjm
    have gj0 : (0 : Int) ≤ (j : Int) := by omega
    have gm0 : (0 : Int) ≤ (m : Int) := by omega
    by_cases hlt : j < cN
    · by_cases hm2 : m < 100
      have tq : (m : Int).tdiv 12 = (m : Int) / 12 := Int.tdiv_eq_ediv_of_nonneg (by omega)
      have tr : (m : Int).tmod 12 = (m : Int) % 12 := Int.tmod_eq_emod_of_nonneg (by omega)
      obtain ⟨yy, hyy⟩ : ∃ yy, Y + (m : Int) / 12 = yy := ⟨_, rfl⟩
      obtain ⟨mo, hmo⟩ : ∃ mo, (m : Int) % 12 + 1 = mo := ⟨_, rfl⟩
      have e1 : 2000 + (q + m) / 12 = yy := by omega
      have e2 : (q + m) % 12 + 1 = mo := by omega
      have hmin := mon_min q D m hq0 hq1 hD0 hm2
      rw [e1, e2] at hmin
      clear e1 e2
      replace d0 := cell_keep HBR.out d0
      replace d1 := cell_keep HBR.out d1
      replace d2 := cell_keep HBR.out d2
      have HBW := hide HBR.out
      cases hb0 : monB q D m
      · have x0 : (wr.alloc (.cells #[.int .i64 yy, .int .i64 mo, .int .i64 D] 49)).cell? ⟨wr.heap.size, 0, none⟩ = some (.int .i64 yy) := by rw [World.cell?_alloc_at _ _ _ _ rfl]; rfl
        have x1 : (wr.alloc (.cells #[.int .i64 yy, .int .i64 mo, .int .i64 D] 49)).cell? ⟨wr.heap.size, 1, none⟩ = some (.int .i64 mo) := by rw [World.cell?_alloc_at _ _ _ _ rfl]; rfl
        have x2 : (wr.alloc (.cells #[.int .i64 yy, .int .i64 mo, .int .i64 D] 49)).cell? ⟨wr.heap.size, 2, none⟩ = some (.int .i64 D) := by rw [World.cell?_alloc_at _ _ _ _ rfl]; rfl
        replace HBR := hide (more HBR.out (.cells #[.int .i64 yy, .int .i64 mo, .int .i64 D] 49))
        have HN := hide (monL_no q D m hb0)
        obtain ⟨⟨z, z2⟩, hE⟩ : ∃ z, minE yy mo D 9 0 = z := ⟨_, rfl⟩
        have hz2 := hmin.2 hb0
        rw [hE] at hz2
        simp only at hz2
        subst hz2
        have HE := hide hE
        clear hE hmin hb0
        go_wp2_with fail
        generalize wr.alloc (.cells #[.int .i64 yy, .int .i64 mo, .int .i64 D] 49) = V at *
        generalize wr.heap.size = XV at *
        refine (rMinute_any yy mo D 9 0 _).mono ?_
        rintro e v1 ⟨rfl, hb⟩
        rw [HE.out]
        replace HBR := hide (andthen HBR.out hb)
        clear hb
        go_wp2_with fail
        go_roundw
        case rel => exact ⟨j, m + 1, by omega, by omega, by rw [HN.out]; exact HJM.out, rfl, by go_num, HBR.out⟩
        case measure => simp [intOf]; omega
      · have x0 : (wr.alloc (.cells #[.int .i64 yy, .int .i64 mo, .int .i64 D] 49)).cell? ⟨wr.heap.size, 0, none⟩ = some (.int .i64 yy) := by rw [World.cell?_alloc_at _ _ _ _ rfl]; rfl
        have x1 : (wr.alloc (.cells #[.int .i64 yy, .int .i64 mo, .int .i64 D] 49)).cell? ⟨wr.heap.size, 1, none⟩ = some (.int .i64 mo) := by rw [World.cell?_alloc_at _ _ _ _ rfl]; rfl
        have x2 : (wr.alloc (.cells #[.int .i64 yy, .int .i64 mo, .int .i64 D] 49)).cell? ⟨wr.heap.size, 2, none⟩ = some (.int .i64 D) := by rw [World.cell?_alloc_at _ _ _ _ rfl]; rfl
        replace HBR := hide (more HBR.out (.cells #[.int .i64 yy, .int .i64 mo, .int .i64 D] 49))
        have HN := hide (monL_yes q D m hb0)
        have hat := mon_at q D cN m hm2 hb0
        have hE := hmin.1 hb0
        have HE := hide hE
        have hil : (monL q D m).length < ((monL q D 100).take cN).length := by rw [HLN.out, HJM.out]; exact hlt
        have hget := hat hil
        obtain ⟨km, hkm⟩ : ∃ km, monM q D m = km := ⟨_, rfl⟩
        rw [hkm] at hget
        have HKM := hide hkm
        obtain ⟨b1, o1, rfl, hb1, hc1⟩ := HR.out (by intro h0; rw [h0] at hil; exact absurd hil (Nat.not_lt_zero _))
        have p1 : wr.cell? ⟨b1, o1 + j, none⟩ = some (.int .i64 km) := by rw [← hget]; simp only [HJM.out]; exact ((HBW.out.cell (p := ⟨b1, _, none⟩) hb1)).trans (hc1 j (by rw [HLN.out]; exact hlt))
        have p1 := cell_keep (more (start wr) (.cells #[.int .i64 yy, .int .i64 mo, .int .i64 D] 49)) p1
        have hi1 : (j : Int) < (cN : Int) := by omega
        have hkk : (km != km) = false := by simp
        clear hat hget hc1 hil hkm hE hmin hb0
        go_wp2_with fail
        generalize wr.alloc (.cells #[.int .i64 yy, .int .i64 mo, .int .i64 D] 49) = V at *
        generalize wr.heap.size = XV at *
        refine (rMinute_any yy mo D 9 0 _).mono ?_
        rintro e v1 ⟨rfl, hb⟩
        rw [HE.out, HKM.out]
        replace HBR := hide (andthen HBR.out hb)
        replace p1 := cell_keep hb p1
        clear hb
        go_wp2_with fail
        go_roundw
        case rel => exact ⟨j + 1, m + 1, by omega, by omega, by rw [HN.out, List.length_append, HJM.out]; rfl, by go_num, by go_num, HBR.out⟩
        case measure => simp [intOf]; omega
      · exfalso
        obtain rfl : m = 100 := by omega
        have h1 := monL_100 q D hq0 hq2 hD1
        have h2 := HJM.out
        omega
    · obtain rfl : j = cN := by omega
      have gq : ((j : Int) == (j : Int)) = true := beq_self_eq_true _
      go_wp2_with fail
      go_ret
      exact ⟨rfl, andthen HBX.out HBR.out⟩
theorem mon6_any (x y n : Int) (w : World) (x0 : 0 ≤ x) (x1 : x ≤ 255) (y0 : 0 ≤ y) (y1 : y ≤ 255) (n0 : 0 ≤ n) (n1 : n ≤ 255) :
    Calls Try.prog 7 #[.int .u8 x, .int .u8 y, .int .u8 n] w (Ans w (.bool true)) := by
  obtain ⟨cN, hc⟩ : ∃ cN : Nat, n % 30 + 1 = (cN : Int) := ⟨(n % 30 + 1).toNat, by omega⟩
  obtain ⟨q, hq⟩ : ∃ q, q = 12 * (x % 40) := ⟨_, rfl⟩
  have hs := mon_starts q (y % 31 + 1) cN (by omega) (by omega) (by omega) (by omega) (by omega) (by omega) (by omega)
  have hm := (mon_min q (y % 31 + 1) 0 (by omega) (by omega) (by omega) (by omega)).1 (decide_eq_true (by
    have e : (q + ((0 : Nat) : Int)) % 12 + 1 = 1 := by omega
    rw [e]; show y % 31 + 1 ≤ 31; omega))
  refine mon_walk x y n (2000 + x % 40) (y % 31 + 1) q ((fst q + (y % 31 + 1) - 1) * 1440 + 540) cN w x0 x1 y0 y1 n0 n1 rfl rfl hc hq (hide ?_) (hide hs.1) (hide hs.2)
  have e1 : 2000 + (q + ((0 : Nat) : Int)) / 12 = 2000 + x % 40 := by omega
  have e2 : (q + ((0 : Nat) : Int)) % 12 + 1 = 1 := by omega
  rw [e1, e2] at hm
  rw [hm]
  unfold monM
  rw [show q + ((0 : Nat) : Int) = q by omega]

end Go.Proofs.Ytdmplojfidkipaa

/- RuleWeeks walked: a weekday fits each seventh day. -/
import Derived.Test.YtigbfmlpbobpfaaRuW
namespace Go.Proofs.Ytigbfmlpbobpfaa
open Go.RowKit Rul Go.Sort

theorem weeks_rec (k : Int) (h1 : 0 ≤ k) (h2 : k ≤ 6) : recB ⟨2, 2, 0, -1, [(0, k)], [], []⟩ = true := by
  have hw : wdOk (0, k) = true := by unfold wdOk; rw [(btw_iff _ _ _).2 (by omega), (btw_iff _ _ _).2 (by omega)]; rfl
  have hl : listB wdOk wdLt (0, 0) [(0, k)] = true := listB_yes _ _ _ _ (by simp) fun i hi => by
    obtain rfl : i = 0 := by simpa using hi
    rw [stepB_0 _ _ _ _ (by simp)]; exact hw
  unfold recB wellB
  simp only [hl]
  rfl
theorem weeks_fits (day k : Int) (h1 : 0 ≤ day) (h2 : day < 36525) (h3 : 0 ≤ k) (h4 : k ≤ 6) : fitsB ⟨2, 2, 0, -1, [(0, k)], [], []⟩ day = (Cal.wday day == k) := by
  unfold fitsB
  rw [show dayB day = true from decide_eq_true ⟨h1, h2⟩, weeks_rec k h3 h4]
  show (true && (true && (true && (true && (false || List.any [((0 : Int), k)] (wdFit (placeOf day))))))) = _
  simp only [Bool.true_and, Bool.false_or, List.any_cons, List.any_nil, Bool.or_false]
  show (decide (k = Cal.wday day) && _) = _
  rw [show (decide ((0 : Int) = 0) || (decide ((0 : Int) = (placeOf day).po) || decide ((0 : Int) = (placeOf day).pe))) = true from rfl, Bool.and_true]
  rw [Bool.eq_iff_iff, decide_eq_true_eq, beq_iff_eq]
  exact eq_comm
theorem wday_28 (d : Int) (j : Nat) : Cal.wday (d + ((j : Int) + 7) % 28) = Cal.wday (d + (j : Int)) := by unfold Cal.wday; omega
/-- how many of the first j days behind d have the weekday k. -/
def cntW (d k : Int) : Nat → Int
  | 0 => 0
  | j + 1 => cntW d k j + (if (Cal.wday (d + (j : Int)) == k) = true then 1 else 0)
theorem cntW_succ (d k : Int) (j : Nat) : cntW d k (j + 1) = cntW d k j + (if (Cal.wday (d + (j : Int)) == k) = true then 1 else 0) := rfl
theorem cntW_nn (d k : Int) (j : Nat) : 0 ≤ cntW d k j := by
  induction j with
  | zero => exact Int.le_refl 0
  | succ j ih => rw [cntW_succ]; split <;> omega
theorem cntW_le (d k : Int) (j : Nat) : cntW d k j ≤ j := by
  induction j with
  | zero => exact Int.le_refl 0
  | succ j ih => rw [cntW_succ]; split <;> omega
theorem cntW_mod (d k : Int) (j : Nat) : cntW d k j = cntW (d % 7) k j := by
  induction j with
  | zero => rfl
  | succ j ih =>
    rw [cntW_succ, cntW_succ, ih]
    have : Cal.wday (d + (j : Int)) = Cal.wday (d % 7 + (j : Int)) := by unfold Cal.wday; omega
    rw [this]
theorem cntW_all : ∀ m : Fin 7, ∀ k : Fin 7, cntW (m.val : Int) (k.val : Int) 28 = 4 := by decide +kernel
theorem cntW_28 (d k : Int) (h1 : 0 ≤ k) (h2 : k ≤ 6) : cntW d k 28 = 4 := by
  rw [cntW_mod]
  have := cntW_all ⟨(d % 7).toNat, by omega⟩ ⟨k.toNat, by omega⟩
  have e1 : (((d % 7).toNat : Nat) : Int) = d % 7 := by omega
  have e2 : ((k.toNat : Nat) : Int) = k := by omega
  simpa [e1, e2] using this
theorem weeks_no1 (k : Int) : fitsB ⟨2, 2, 0, -1, [(0, k)], [], []⟩ (-1) = false := by unfold fitsB; rw [show dayB (-1) = false from rfl]; rfl
theorem weeks_no2 (k : Int) : fitsB ⟨2, 2, 0, -1, [(0, k)], [], []⟩ 36525 = false := by unfold fitsB; rw [show dayB 36525 = false from rfl]; rfl
theorem rweekday_is2 (n : Int) (w : World) :
    Calls Try.prog 21 #[.int .i64 n] w fun e w' => e = .returned (.int .i64 (Cal.wday n)) ∧ w = w' := rWeekday_any n w

set_option maxRecDepth 100000 in
set_option maxHeartbeats 2000000 in
theorem weeks_any (n x : Int) (w : World) (n1 : 0 ≤ n) (n2 : n ≤ 65535) (x1 : 0 ≤ x) (x2 : x ≤ 255) :
    Calls Try.prog 8 #[.int .u16 n, .int .u8 x] w (Ans w (.bool true)) := by
  have hd1 : 0 ≤ (n % 36495) := by omega
  have hd2 : (n % 36495) ≤ 36494 := by omega
  have hk1 : 0 ≤ (x % 7) := by omega
  have hk2 : (x % 7) ≤ 6 := by omega
  go_enter Try.func8, Try.ntmps8
  go_wp2_with fail
  refine (known_any _).mono ?_
  rintro e w1 ⟨rfl, hb1⟩
  have HB0 := hide hb1
  clear hb1
  have HBX := hide (more (more (start w1) (.cells #[.int .i64 0, .int .i64 (x % 7)] 33)) (.cells #[.int .i64 2, .int .i64 2, .int .i64 0, .int .i64 (-1), .slice (some ⟨w1.heap.size, 0, none⟩) 1 1, .slice none 0 0, .slice none 0 0] 25))
  have L : Hid (Lies ((w1.alloc (.cells #[.int .i64 0, .int .i64 (x % 7)] 33)).alloc (.cells #[.int .i64 2, .int .i64 2, .int .i64 0, .int .i64 (-1), .slice (some ⟨w1.heap.size, 0, none⟩) 1 1, .slice none 0 0, .slice none 0 0] 25)) (some ⟨w1.heap.size, 0, none⟩) 1 none 0 none 0 [(0, (x % 7))] [] []) := hide (Lies.keep (lies_day (rowD_one w1 0 (x % 7) 33)) (more (start _) _))
  have s0 : ((w1.alloc (.cells #[.int .i64 0, .int .i64 (x % 7)] 33)).alloc (.cells #[.int .i64 2, .int .i64 2, .int .i64 0, .int .i64 (-1), .slice (some ⟨w1.heap.size, 0, none⟩) 1 1, .slice none 0 0, .slice none 0 0] 25)).cell? ⟨w1.heap.size + 1, 0, none⟩ = some (.int .i64 2) := by rw [World.cell?_alloc_at _ _ _ _ (by simp)]; rfl
  have s1 : ((w1.alloc (.cells #[.int .i64 0, .int .i64 (x % 7)] 33)).alloc (.cells #[.int .i64 2, .int .i64 2, .int .i64 0, .int .i64 (-1), .slice (some ⟨w1.heap.size, 0, none⟩) 1 1, .slice none 0 0, .slice none 0 0] 25)).cell? ⟨w1.heap.size + 1, 1, none⟩ = some (.int .i64 2) := by rw [World.cell?_alloc_at _ _ _ _ (by simp)]; rfl
  have s2 : ((w1.alloc (.cells #[.int .i64 0, .int .i64 (x % 7)] 33)).alloc (.cells #[.int .i64 2, .int .i64 2, .int .i64 0, .int .i64 (-1), .slice (some ⟨w1.heap.size, 0, none⟩) 1 1, .slice none 0 0, .slice none 0 0] 25)).cell? ⟨w1.heap.size + 1, 2, none⟩ = some (.int .i64 0) := by rw [World.cell?_alloc_at _ _ _ _ (by simp)]; rfl
  have s3 : ((w1.alloc (.cells #[.int .i64 0, .int .i64 (x % 7)] 33)).alloc (.cells #[.int .i64 2, .int .i64 2, .int .i64 0, .int .i64 (-1), .slice (some ⟨w1.heap.size, 0, none⟩) 1 1, .slice none 0 0, .slice none 0 0] 25)).cell? ⟨w1.heap.size + 1, 3, none⟩ = some (.int .i64 (-1)) := by rw [World.cell?_alloc_at _ _ _ _ (by simp)]; rfl
  have s4 : ((w1.alloc (.cells #[.int .i64 0, .int .i64 (x % 7)] 33)).alloc (.cells #[.int .i64 2, .int .i64 2, .int .i64 0, .int .i64 (-1), .slice (some ⟨w1.heap.size, 0, none⟩) 1 1, .slice none 0 0, .slice none 0 0] 25)).cell? ⟨w1.heap.size + 1, 4, none⟩ = some (.slice (some ⟨w1.heap.size, 0, none⟩) 1 1) := by rw [World.cell?_alloc_at _ _ _ _ (by simp)]; rfl
  have s5 : ((w1.alloc (.cells #[.int .i64 0, .int .i64 (x % 7)] 33)).alloc (.cells #[.int .i64 2, .int .i64 2, .int .i64 0, .int .i64 (-1), .slice (some ⟨w1.heap.size, 0, none⟩) 1 1, .slice none 0 0, .slice none 0 0] 25)).cell? ⟨w1.heap.size + 1, 5, none⟩ = some (.slice none 0 0) := by rw [World.cell?_alloc_at _ _ _ _ (by simp)]; rfl
  have s6 : ((w1.alloc (.cells #[.int .i64 0, .int .i64 (x % 7)] 33)).alloc (.cells #[.int .i64 2, .int .i64 2, .int .i64 0, .int .i64 (-1), .slice (some ⟨w1.heap.size, 0, none⟩) 1 1, .slice none 0 0, .slice none 0 0] 25)).cell? ⟨w1.heap.size + 1, 6, none⟩ = some (.slice none 0 0) := by rw [World.cell?_alloc_at _ _ _ _ (by simp)]; rfl
  go_wp2_with fail
  generalize ((w1.alloc (.cells #[.int .i64 0, .int .i64 (x % 7)] 33)).alloc (.cells #[.int .i64 2, .int .i64 2, .int .i64 0, .int .i64 (-1), .slice (some ⟨w1.heap.size, 0, none⟩) 1 1, .slice none 0 0, .slice none 0 0] 25)) = W at *
  replace HBX := hide (andthen HB0.out HBX.out)
  generalize w1.heap.size = B at *
  clear HB0
  go_loopw [7, 8] (fun c i wr => ∃ j : Nat, j ≤ 28 ∧ i = .int .i64 j ∧ c = .int .i64 (cntW (n % 36495) (x % 7) j) ∧ Below w.heap.size w wr ∧ Lies wr (some ⟨B, 0, none⟩) 1 none 0 none 0 [(0, (x % 7))] [] [] ∧ wr.cell? ⟨B + 1, 0, none⟩ = some (.int .i64 2) ∧ wr.cell? ⟨B + 1, 1, none⟩ = some (.int .i64 2) ∧ wr.cell? ⟨B + 1, 2, none⟩ = some (.int .i64 0) ∧ wr.cell? ⟨B + 1, 3, none⟩ = some (.int .i64 (-1)) ∧ wr.cell? ⟨B + 1, 4, none⟩ = some (.slice (some ⟨B, 0, none⟩) 1 1) ∧ wr.cell? ⟨B + 1, 5, none⟩ = some (.slice none 0 0) ∧ wr.cell? ⟨B + 1, 6, none⟩ = some (.slice none 0 0)) (fun _ i _ => 28 - (intOf i).toNat)
  case atStart => exact ⟨0, by omega, rfl, rfl, HBX.out, L.out, s0, s1, s2, s3, s4, s5, s6⟩
  case round =>
    clear HBX L s0 s1 s2 s3 s4 s5 s6
    obtain ⟨j, hj, rfl, rfl, hbw, hL, s0, s1, s2, s3, s4, s5, s6⟩ := hrel
    have HBX := hide hbw
    have L := hide hL
    clear hbw hL
    by_cases hlt : j < 28
    · cases hq : (Cal.wday ((n % 36495) + (j : Int)) == (x % 7))
      · have HA := hide (show fitsB ⟨2, 2, 0, -1, [(0, (x % 7))], [], []⟩ ((n % 36495) + (j : Int)) = false by rw [weeks_fits _ _ (by omega) (by omega) (by omega) (by omega), hq])
        have HC := hide (show fitsB ⟨2, 2, 0, -1, [(0, (x % 7))], [], []⟩ ((n % 36495) + ((j : Int) + 7) % 28) = false by rw [weeks_fits _ _ (by omega) (by omega) (by omega) (by omega), wday_28, hq])
        have HQ := hide hq
        have HN := hide (cntW_succ (n % 36495) (x % 7) j)
        have hcn := cntW_le (n % 36495) (x % 7) j
        have hc0 := cntW_nn (n % 36495) (x % 7) j
        rw [hq] at HN
        clear hq
        go_wp2_with fail
        refine (ans_is (fits_any 2 2 0 (-1) (some ⟨B, 0, none⟩) none none 1 1 0 0 0 0 [(0, (x % 7))] [] [] ((n % 36495) + (j : Int)) _ L.out) HA.out).mono ?_
        rintro e w2 ⟨rfl, hb2⟩
        replace HBX := hide (andthen HBX.out hb2)
        replace L := hide (L.out.keep hb2)
        replace s0 := cell_keep hb2 s0
        replace s1 := cell_keep hb2 s1
        replace s2 := cell_keep hb2 s2
        replace s3 := cell_keep hb2 s3
        replace s4 := cell_keep hb2 s4
        replace s5 := cell_keep hb2 s5
        replace s6 := cell_keep hb2 s6
        clear hb2
        go_wp2_with fail
        refine (ans_is (fits_any 2 2 0 (-1) (some ⟨B, 0, none⟩) none none 1 1 0 0 0 0 [(0, (x % 7))] [] [] ((n % 36495) + ((j : Int) + 7) % 28) _ L.out) HC.out).mono ?_
        rintro e w2 ⟨rfl, hb2⟩
        replace HBX := hide (andthen HBX.out hb2)
        replace L := hide (L.out.keep hb2)
        replace s0 := cell_keep hb2 s0
        replace s1 := cell_keep hb2 s1
        replace s2 := cell_keep hb2 s2
        replace s3 := cell_keep hb2 s3
        replace s4 := cell_keep hb2 s4
        replace s5 := cell_keep hb2 s5
        replace s6 := cell_keep hb2 s6
        clear hb2
        go_wp2_with fail
        refine (rweekday_is2 ((n % 36495) + (j : Int)) _).mono ?_
        rintro e w3 ⟨rfl, rfl⟩
        have hqq := HQ.out
        go_wp2_with fail
        go_roundw
        case rel => exact ⟨j + 1, by omega, by go_num, by rw [HN.out]; simp, HBX.out, L.out, s0, s1, s2, s3, s4, s5, s6⟩
        case measure => simp [intOf]; omega
      · have HA := hide (show fitsB ⟨2, 2, 0, -1, [(0, (x % 7))], [], []⟩ ((n % 36495) + (j : Int)) = true by rw [weeks_fits _ _ (by omega) (by omega) (by omega) (by omega), hq])
        have HC := hide (show fitsB ⟨2, 2, 0, -1, [(0, (x % 7))], [], []⟩ ((n % 36495) + ((j : Int) + 7) % 28) = true by rw [weeks_fits _ _ (by omega) (by omega) (by omega) (by omega), wday_28, hq])
        have HQ := hide hq
        have HN := hide (cntW_succ (n % 36495) (x % 7) j)
        have hcn := cntW_le (n % 36495) (x % 7) j
        have hc0 := cntW_nn (n % 36495) (x % 7) j
        rw [hq] at HN
        clear hq
        go_wp2_with fail
        refine (ans_is (fits_any 2 2 0 (-1) (some ⟨B, 0, none⟩) none none 1 1 0 0 0 0 [(0, (x % 7))] [] [] ((n % 36495) + (j : Int)) _ L.out) HA.out).mono ?_
        rintro e w2 ⟨rfl, hb2⟩
        replace HBX := hide (andthen HBX.out hb2)
        replace L := hide (L.out.keep hb2)
        replace s0 := cell_keep hb2 s0
        replace s1 := cell_keep hb2 s1
        replace s2 := cell_keep hb2 s2
        replace s3 := cell_keep hb2 s3
        replace s4 := cell_keep hb2 s4
        replace s5 := cell_keep hb2 s5
        replace s6 := cell_keep hb2 s6
        clear hb2
        go_wp2_with fail
        refine (ans_is (fits_any 2 2 0 (-1) (some ⟨B, 0, none⟩) none none 1 1 0 0 0 0 [(0, (x % 7))] [] [] ((n % 36495) + ((j : Int) + 7) % 28) _ L.out) HC.out).mono ?_
        rintro e w2 ⟨rfl, hb2⟩
        replace HBX := hide (andthen HBX.out hb2)
        replace L := hide (L.out.keep hb2)
        replace s0 := cell_keep hb2 s0
        replace s1 := cell_keep hb2 s1
        replace s2 := cell_keep hb2 s2
        replace s3 := cell_keep hb2 s3
        replace s4 := cell_keep hb2 s4
        replace s5 := cell_keep hb2 s5
        replace s6 := cell_keep hb2 s6
        clear hb2
        go_wp2_with fail
        refine (rweekday_is2 ((n % 36495) + (j : Int)) _).mono ?_
        rintro e w3 ⟨rfl, rfl⟩
        have hqq := HQ.out
        go_wp2_with fail
        go_roundw
        case rel => exact ⟨j + 1, by omega, by go_num, by rw [HN.out, if_pos trivial], HBX.out, L.out, s0, s1, s2, s3, s4, s5, s6⟩
        case measure => simp [intOf]; omega
    · obtain rfl : j = 28 := by omega
      rw [cntW_28 _ _ hk1 hk2]
      have HA := hide (weeks_no1 (x % 7))
      have HC := hide (weeks_no2 (x % 7))
      go_wp2_with fail
      refine (ans_is (fits_any 2 2 0 (-1) (some ⟨B, 0, none⟩) none none 1 1 0 0 0 0 [(0, (x % 7))] [] [] (-1) _ L.out) HA.out).mono ?_
      rintro e w2 ⟨rfl, hb2⟩
      replace HBX := hide (andthen HBX.out hb2)
      replace L := hide (L.out.keep hb2)
      replace s0 := cell_keep hb2 s0
      replace s1 := cell_keep hb2 s1
      replace s2 := cell_keep hb2 s2
      replace s3 := cell_keep hb2 s3
      replace s4 := cell_keep hb2 s4
      replace s5 := cell_keep hb2 s5
      replace s6 := cell_keep hb2 s6
      clear hb2
      go_wp2_with fail
      refine (ans_is (fits_any 2 2 0 (-1) (some ⟨B, 0, none⟩) none none 1 1 0 0 0 0 [(0, (x % 7))] [] [] 36525 _ L.out) HC.out).mono ?_
      rintro e w2 ⟨rfl, hb2⟩
      replace HBX := hide (andthen HBX.out hb2)
      replace L := hide (L.out.keep hb2)
      replace s0 := cell_keep hb2 s0
      replace s1 := cell_keep hb2 s1
      replace s2 := cell_keep hb2 s2
      replace s3 := cell_keep hb2 s3
      replace s4 := cell_keep hb2 s4
      replace s5 := cell_keep hb2 s5
      replace s6 := cell_keep hb2 s6
      clear hb2
      go_wp2_with fail
      go_ret
      exact ⟨rfl, HBX.out⟩

end Go.Proofs.Ytigbfmlpbobpfaa

/- RuleMonthDays walked: days counted from a month's front and from its end. -/
import Derived.Test.YtigbfmlpbobpfaaRuW
namespace Go.Proofs.Ytigbfmlpbobpfaa
open Go.RowKit Rul Go.Sort

theorem num_at (y m fm : Int) (i : Nat) (h1 : 2000 ≤ y) (h2 : y ≤ 2099) (m1 : 1 ≤ m) (m2 : m ≤ 12) (hn : numE y m 1 = (fm, 0)) (hi : (i : Int) < Cal.dim y m) :
    Cal.isB y m ((i : Int) + 1) = true ∧ Cal.num y m ((i : Int) + 1) = fm + (i : Int) := by
  have hp := Cal.dim_pos y m m1 m2
  have hb : Cal.isB y m 1 = true := by rw [Cal.isB_iff]; omega
  rw [numE_0 y m 1 hb h1 h2] at hn
  have e : Cal.num y m 1 = fm := congrArg Prod.fst hn
  refine ⟨by rw [Cal.isB_iff]; omega, ?_⟩
  rw [← e]; unfold Cal.num; omega
theorem place_at (y m fm sz : Int) (i : Nat) (h1 : 2000 ≤ y) (h2 : y ≤ 2099) (m1 : 1 ≤ m) (m2 : m ≤ 12) (hn : numE y m 1 = (fm, 0)) (hs : Cal.dim y m = sz) (hi : (i : Int) < sz) :
    (0 ≤ fm + (i : Int) ∧ fm + (i : Int) < 36525) ∧ placeOf (fm + (i : Int)) = ⟨m, (i : Int) + 1, (i : Int) - sz, Cal.wday (fm + (i : Int)), (i : Int) / 7 + 1, -((sz - (i : Int) - 1) / 7 + 1)⟩ := by
  obtain ⟨hb, hu⟩ := num_at y m fm i h1 h2 m1 m2 hn (by omega)
  have hbd := Cal.num_bd y m _ h1 h2 hb
  rw [hu] at hbd
  obtain ⟨e1, e2, e3⟩ := Cal.of_unique _ y m _ h1 h2 hb hu
  refine ⟨hbd, ?_⟩
  unfold placeOf
  rw [e1, e2, e3, hs]
  simp only [P.mk.injEq, true_and]
  refine ⟨by omega, ?_, ?_⟩
  · rw [show (i : Int) + 1 - 1 = (i : Int) by omega]
  · rw [show sz - ((i : Int) + 1) = sz - (i : Int) - 1 by omega]
theorem md_rec (k : Int) (h1 : -31 ≤ k) (h2 : k ≤ 31) (h0 : k ≠ 0) : recB ⟨1, 1, 0, -1, [], [k], []⟩ = true := by
  have hw : mdOk k = true := by unfold mdOk; rw [(btw_iff _ _ _).2 ⟨h1, h2⟩, bne_iff_ne.2 h0]; rfl
  have hl : listB mdOk inLt 0 [k] = true := listB_yes _ _ _ _ (by simp) fun i hi => by
    obtain rfl : i = 0 := by simpa using hi
    rw [stepB_0 _ _ _ _ (by simp)]; exact hw
  unfold recB wellB
  simp only [hl]
  rfl
theorem md_fits (y m fm sz k : Int) (i : Nat) (h1 : 2000 ≤ y) (h2 : y ≤ 2099) (m1 : 1 ≤ m) (m2 : m ≤ 12) (hn : numE y m 1 = (fm, 0)) (hs : Cal.dim y m = sz) (k1 : -31 ≤ k) (k2 : k ≤ 31) (k0 : k ≠ 0) (hi : (i : Int) < sz) :
    fitsB ⟨1, 1, 0, -1, [], [k], []⟩ (fm + (i : Int)) = (((i : Int) + 1 == k) || ((i : Int) - sz == k)) := by
  obtain ⟨hd, hp⟩ := place_at y m fm sz i h1 h2 m1 m2 hn hs hi
  unfold fitsB
  rw [show dayB (fm + (i : Int)) = true from decide_eq_true hd, md_rec k k1 k2 k0, hp]
  show (true && (true && (true && ((false || List.any [k] (mdFit _)) && true)))) = _
  simp only [Bool.true_and, Bool.false_or, List.any_cons, List.any_nil, Bool.or_false, Bool.and_true]
  unfold mdFit
  rw [Bool.eq_iff_iff]
  simp only [Bool.or_eq_true, decide_eq_true_eq, beq_iff_eq]
  constructor <;> (intro h; omega)
/-- how many of the first j days of a month fit. -/
def cntM (k sz : Int) (j : Nat) : Int := if (0 < k ∧ k ≤ (j : Int)) ∨ (k < 0 ∧ 0 ≤ sz + k ∧ sz + k < (j : Int)) then 1 else 0
theorem cntM_bd (k sz : Int) (j : Nat) : 0 ≤ cntM k sz j ∧ cntM k sz j ≤ 1 := by unfold cntM; split <;> omega
theorem cntM_yes (k sz : Int) (j : Nat) (_h0 : k ≠ 0) (hj : (j : Int) < sz) (h : (j : Int) + 1 = k ∨ (j : Int) - sz = k) : cntM k sz (j + 1) = cntM k sz j + 1 := by
  unfold cntM; rw [if_pos (by omega), if_neg (by omega)]; rfl
theorem cntM_no (k sz : Int) (j : Nat) (_h0 : k ≠ 0) (hj : (j : Int) < sz) (h : ¬ ((j : Int) + 1 = k ∨ (j : Int) - sz = k)) : cntM k sz (j + 1) = cntM k sz j := by
  unfold cntM
  by_cases c : (0 < k ∧ k ≤ (j : Int)) ∨ (k < 0 ∧ 0 ≤ sz + k ∧ sz + k < (j : Int))
  · rw [if_pos c, if_pos (by omega)]
  · rw [if_neg c, if_neg (by omega)]
theorem cntM_0 (k sz : Int) : cntM k sz 0 = 0 := by unfold cntM; rw [if_neg (by omega)]
theorem rowI_one (w : World) (x : Int) (t : TypeId) : RowI (w.alloc (.cells #[.int .i64 x] t)) (some ⟨w.heap.size, 0, none⟩) [x] := fun _ =>
  ⟨w.heap.size, 0, rfl, by simp, fun i hi => by
    obtain rfl : i = 0 := by simpa using hi
    rw [World.cell?_alloc_at _ _ _ _ rfl]; rfl⟩
theorem lies_num {w : World} {A : Option Addr} {x : Int} (h : RowI w A [x]) : Lies w none 0 A 1 none 0 [] [x] [] :=
  ⟨RowD.nil _ _, rfl, by simp, h, rfl, by simp, RowI.nil _ _, rfl, by simp⟩

set_option maxRecDepth 100000 in
set_option maxHeartbeats 2000000 in
theorem mdays_walk (n x y m fm sz k : Int) (w : World) (n1 : 0 ≤ n) (n2 : n ≤ 65535) (_x1 : -128 ≤ x) (_x2 : x ≤ 127) (hy : 2000 + n % 1200 / 12 = y) (hm : n % 12 + 1 = m) (hk : x.tmod 32 = k)
    (hnum : numE y m 1 = (fm, 0)) (hsz : Cal.dim y m = sz) (hy1 : 2000 ≤ y) (hy2 : y ≤ 2099) (hm1 : 1 ≤ m) (hm2 : m ≤ 12) (hk1 : -31 ≤ k) (hk2 : k ≤ 31) (f1 : 0 ≤ fm) (f2 : fm < 36525) (z1 : 1 ≤ sz) (z2 : sz ≤ 31) :
    Calls Try.prog 6 #[.int .u16 n, .int .i8 x] w (Ans w (.bool true)) := by
  have HY := hide hy
  have HM := hide hm
  have HK := hide hk
  have HNUM := hide hnum
  have HSZ := hide hsz
  clear hy hm hk hnum hsz
  go_enter Try.func6, Try.ntmps6
  go_wp2_with fail
  refine (known_any _).mono ?_
  rintro e w1 ⟨rfl, hb1⟩
  have HBX := hide hb1
  clear hb1
  go_wp2_with fail
  rw [HY.out, HM.out]
  refine (rnumber_is y m 1 fm 0 _ HNUM.out).mono ?_
  rintro e w2 ⟨rfl, hb2⟩
  have c0 : w2.cell? ⟨w1.heap.size, 0, none⟩ = some (.int .i64 y) := cell_keep hb2 (by rw [World.cell?_alloc_at _ _ _ _ rfl]; rfl)
  have c1 : w2.cell? ⟨w1.heap.size, 1, none⟩ = some (.int .i64 m) := cell_keep hb2 (by rw [World.cell?_alloc_at _ _ _ _ rfl]; rfl)
  replace HBX := hide (andthen (more HBX.out (.cells #[.int .i64 y, .int .i64 m, .int .i64 1] 38)) hb2)
  clear hb2
  go_wp2_with fail
  refine (rlength_at y m sz _ HSZ.out).mono ?_
  rintro e w3 ⟨rfl, rfl⟩
  clear c0 c1
  by_cases hk0 : k = 0
  · have g0 : (x.tmod 32 == 0) = true := by rw [HK.out, hk0]; rfl
    have g1 : x.tmod 32 = 0 := by rw [HK.out, hk0]
    go_wp2_with fail
    go_ret
    exact ⟨rfl, HBX.out⟩
  · have g0 : (x.tmod 32 == 0) = false := by rw [HK.out, beq_eq_false_iff_ne]; exact hk0
    have t1 := hk1
    have t2 := hk2
    rw [← HK.out] at t1 t2
    go_wp2_with fail
    rw [HK.out]
    clear g0 t1 t2
    have HB2 := hide (more (more (start w2) (.cells #[.int .i64 k] 3)) (.cells #[.int .i64 1, .int .i64 1, .int .i64 0, .int .i64 (-1), .slice none 0 0, .slice (some ⟨w2.heap.size, 0, none⟩) 1 1, .slice none 0 0] 25))
    have L : Hid (Lies ((w2.alloc (.cells #[.int .i64 k] 3)).alloc (.cells #[.int .i64 1, .int .i64 1, .int .i64 0, .int .i64 (-1), .slice none 0 0, .slice (some ⟨w2.heap.size, 0, none⟩) 1 1, .slice none 0 0] 25)) none 0 (some ⟨w2.heap.size, 0, none⟩) 1 none 0 [] [k] []) := hide (Lies.keep (lies_num (rowI_one w2 k 3)) (more (start _) _))
    have s0 : ((w2.alloc (.cells #[.int .i64 k] 3)).alloc (.cells #[.int .i64 1, .int .i64 1, .int .i64 0, .int .i64 (-1), .slice none 0 0, .slice (some ⟨w2.heap.size, 0, none⟩) 1 1, .slice none 0 0] 25)).cell? ⟨w2.heap.size + 1, 0, none⟩ = some (.int .i64 1) := by rw [World.cell?_alloc_at _ _ _ _ (by simp)]; rfl
    have s1 : ((w2.alloc (.cells #[.int .i64 k] 3)).alloc (.cells #[.int .i64 1, .int .i64 1, .int .i64 0, .int .i64 (-1), .slice none 0 0, .slice (some ⟨w2.heap.size, 0, none⟩) 1 1, .slice none 0 0] 25)).cell? ⟨w2.heap.size + 1, 1, none⟩ = some (.int .i64 1) := by rw [World.cell?_alloc_at _ _ _ _ (by simp)]; rfl
    have s2 : ((w2.alloc (.cells #[.int .i64 k] 3)).alloc (.cells #[.int .i64 1, .int .i64 1, .int .i64 0, .int .i64 (-1), .slice none 0 0, .slice (some ⟨w2.heap.size, 0, none⟩) 1 1, .slice none 0 0] 25)).cell? ⟨w2.heap.size + 1, 2, none⟩ = some (.int .i64 0) := by rw [World.cell?_alloc_at _ _ _ _ (by simp)]; rfl
    have s3 : ((w2.alloc (.cells #[.int .i64 k] 3)).alloc (.cells #[.int .i64 1, .int .i64 1, .int .i64 0, .int .i64 (-1), .slice none 0 0, .slice (some ⟨w2.heap.size, 0, none⟩) 1 1, .slice none 0 0] 25)).cell? ⟨w2.heap.size + 1, 3, none⟩ = some (.int .i64 (-1)) := by rw [World.cell?_alloc_at _ _ _ _ (by simp)]; rfl
    have s4 : ((w2.alloc (.cells #[.int .i64 k] 3)).alloc (.cells #[.int .i64 1, .int .i64 1, .int .i64 0, .int .i64 (-1), .slice none 0 0, .slice (some ⟨w2.heap.size, 0, none⟩) 1 1, .slice none 0 0] 25)).cell? ⟨w2.heap.size + 1, 4, none⟩ = some (.slice none 0 0) := by rw [World.cell?_alloc_at _ _ _ _ (by simp)]; rfl
    have s5 : ((w2.alloc (.cells #[.int .i64 k] 3)).alloc (.cells #[.int .i64 1, .int .i64 1, .int .i64 0, .int .i64 (-1), .slice none 0 0, .slice (some ⟨w2.heap.size, 0, none⟩) 1 1, .slice none 0 0] 25)).cell? ⟨w2.heap.size + 1, 5, none⟩ = some (.slice (some ⟨w2.heap.size, 0, none⟩) 1 1) := by rw [World.cell?_alloc_at _ _ _ _ (by simp)]; rfl
    have s6 : ((w2.alloc (.cells #[.int .i64 k] 3)).alloc (.cells #[.int .i64 1, .int .i64 1, .int .i64 0, .int .i64 (-1), .slice none 0 0, .slice (some ⟨w2.heap.size, 0, none⟩) 1 1, .slice none 0 0] 25)).cell? ⟨w2.heap.size + 1, 6, none⟩ = some (.slice none 0 0) := by rw [World.cell?_alloc_at _ _ _ _ (by simp)]; rfl
    generalize ((w2.alloc (.cells #[.int .i64 k] 3)).alloc (.cells #[.int .i64 1, .int .i64 1, .int .i64 0, .int .i64 (-1), .slice none 0 0, .slice (some ⟨w2.heap.size, 0, none⟩) 1 1, .slice none 0 0] 25)) = W at *
    replace HBX := hide (andthen HBX.out HB2.out)
    generalize w2.heap.size = B at *
    clear HB2
    go_loopw [11, 12] (fun c i wr => ∃ j : Nat, (j : Int) ≤ sz ∧ i = .int .i64 j ∧ c = .int .i64 (cntM k sz j) ∧ Below w.heap.size w wr ∧ Lies wr none 0 (some ⟨B, 0, none⟩) 1 none 0 [] [k] [] ∧ wr.cell? ⟨B + 1, 0, none⟩ = some (.int .i64 1) ∧ wr.cell? ⟨B + 1, 1, none⟩ = some (.int .i64 1) ∧ wr.cell? ⟨B + 1, 2, none⟩ = some (.int .i64 0) ∧ wr.cell? ⟨B + 1, 3, none⟩ = some (.int .i64 (-1)) ∧ wr.cell? ⟨B + 1, 4, none⟩ = some (.slice none 0 0) ∧ wr.cell? ⟨B + 1, 5, none⟩ = some (.slice (some ⟨B, 0, none⟩) 1 1) ∧ wr.cell? ⟨B + 1, 6, none⟩ = some (.slice none 0 0)) (fun _ i _ => (sz - intOf i).toNat)
    case atStart => exact ⟨0, by omega, rfl, by rw [cntM_0], HBX.out, L.out, s0, s1, s2, s3, s4, s5, s6⟩
    case round =>
      clear HBX L s0 s1 s2 s3 s4 s5 s6
      obtain ⟨j, hj, rfl, rfl, hbw, hL, s0, s1, s2, s3, s4, s5, s6⟩ := hrel
      have HBX := hide hbw
      have L := hide hL
      clear hbw hL
      by_cases hlt : (j : Int) < sz
      · cases e1 : ((j : Int) + 1 == k)
        · cases e2 : ((j : Int) - sz == k)
          · have HA := hide (show fitsB ⟨1, 1, 0, -1, [], [k], []⟩ (fm + (j : Int)) = false by rw [md_fits y m fm sz k j hy1 hy2 hm1 hm2 HNUM.out HSZ.out hk1 hk2 hk0 (by omega)]; simp only [e1, e2]; rfl)
            have HN := hide (cntM_no k sz j hk0 (by omega) (by rw [beq_eq_false_iff_ne] at e1 e2; omega))
            have hcb := cntM_bd k sz j
            go_wp2_with fail
            refine (ans_is (fits_any 1 1 0 (-1) none (some ⟨B, 0, none⟩) none 0 0 1 1 0 0 [] [k] [] (fm + (j : Int)) _ L.out) HA.out).mono ?_
            rintro e w2 ⟨rfl, hb2⟩
            replace HBX := hide (andthen HBX.out hb2)
            replace L := hide (L.out.keep hb2)
            replace s0 := cell_keep hb2 s0
            replace s1 := cell_keep hb2 s1
            replace s2 := cell_keep hb2 s2
            replace s3 := cell_keep hb2 s3
            replace s4 := cell_keep hb2 s4
            replace s5 := cell_keep hb2 s5
            replace s6 := cell_keep hb2 s6
            clear hb2
            go_wp2_with fail
            go_roundw
            case rel => exact ⟨j + 1, by omega, by go_num, by rw [HN.out], HBX.out, L.out, s0, s1, s2, s3, s4, s5, s6⟩
            case measure => simp [intOf]; omega
          · have HA := hide (show fitsB ⟨1, 1, 0, -1, [], [k], []⟩ (fm + (j : Int)) = true by rw [md_fits y m fm sz k j hy1 hy2 hm1 hm2 HNUM.out HSZ.out hk1 hk2 hk0 (by omega)]; simp only [e1, e2]; rfl)
            have HN := hide (cntM_yes k sz j hk0 (by omega) (by rw [beq_iff_eq] at e2; omega))
            have hcb := cntM_bd k sz j
            go_wp2_with fail
            refine (ans_is (fits_any 1 1 0 (-1) none (some ⟨B, 0, none⟩) none 0 0 1 1 0 0 [] [k] [] (fm + (j : Int)) _ L.out) HA.out).mono ?_
            rintro e w2 ⟨rfl, hb2⟩
            replace HBX := hide (andthen HBX.out hb2)
            replace L := hide (L.out.keep hb2)
            replace s0 := cell_keep hb2 s0
            replace s1 := cell_keep hb2 s1
            replace s2 := cell_keep hb2 s2
            replace s3 := cell_keep hb2 s3
            replace s4 := cell_keep hb2 s4
            replace s5 := cell_keep hb2 s5
            replace s6 := cell_keep hb2 s6
            clear hb2
            go_wp2_with fail
            go_roundw
            case rel => exact ⟨j + 1, by omega, by go_num, by rw [HN.out], HBX.out, L.out, s0, s1, s2, s3, s4, s5, s6⟩
            case measure => simp [intOf]; omega
        · have HA := hide (show fitsB ⟨1, 1, 0, -1, [], [k], []⟩ (fm + (j : Int)) = true by rw [md_fits y m fm sz k j hy1 hy2 hm1 hm2 HNUM.out HSZ.out hk1 hk2 hk0 (by omega)]; simp only [e1]; rfl)
          have HN := hide (cntM_yes k sz j hk0 (by omega) (by rw [beq_iff_eq] at e1; omega))
          have hcb := cntM_bd k sz j
          go_wp2_with fail
          refine (ans_is (fits_any 1 1 0 (-1) none (some ⟨B, 0, none⟩) none 0 0 1 1 0 0 [] [k] [] (fm + (j : Int)) _ L.out) HA.out).mono ?_
          rintro e w2 ⟨rfl, hb2⟩
          replace HBX := hide (andthen HBX.out hb2)
          replace L := hide (L.out.keep hb2)
          replace s0 := cell_keep hb2 s0
          replace s1 := cell_keep hb2 s1
          replace s2 := cell_keep hb2 s2
          replace s3 := cell_keep hb2 s3
          replace s4 := cell_keep hb2 s4
          replace s5 := cell_keep hb2 s5
          replace s6 := cell_keep hb2 s6
          clear hb2
          go_wp2_with fail
          go_roundw
          case rel => exact ⟨j + 1, by omega, by go_num, by rw [HN.out], HBX.out, L.out, s0, s1, s2, s3, s4, s5, s6⟩
          case measure => simp [intOf]; omega
      · obtain rfl : (j : Int) = sz := by omega
        by_cases hs : 0 < k
        · have a1 : -k ≤ k := by omega
          have a2 : -k < k := by omega
          have a3 : ¬ k ≤ -k := by omega
          have a4 : ¬ k < -k := by omega
          by_cases hmx : k ≤ (j : Int)
          · have hc : cntM k (j : Int) j = 1 := by unfold cntM; rw [if_pos (by omega)]
            have hd : decide (k ≤ (j : Int)) = true := decide_eq_true hmx
            rw [hc]
            go_wp2_with fail
            go_ret
            exact ⟨rfl, HBX.out⟩
          · have hc : cntM k (j : Int) j = 0 := by unfold cntM; rw [if_neg (by omega)]
            have hd : decide (k ≤ (j : Int)) = false := decide_eq_false hmx
            rw [hc]
            go_wp2_with fail
            go_ret
            exact ⟨rfl, HBX.out⟩
        · have a1 : ¬ -k ≤ k := by omega
          have a2 : ¬ -k < k := by omega
          have a3 : k ≤ -k := by omega
          have a4 : k < -k := by omega
          by_cases hmx : -k ≤ (j : Int)
          · have hc : cntM k (j : Int) j = 1 := by unfold cntM; rw [if_pos (by omega)]
            have hd : decide (-k ≤ (j : Int)) = true := decide_eq_true hmx
            rw [hc]
            go_wp2_with fail
            go_ret
            exact ⟨rfl, HBX.out⟩
          · have hc : cntM k (j : Int) j = 0 := by unfold cntM; rw [if_neg (by omega)]
            have hd : decide (-k ≤ (j : Int)) = false := decide_eq_false hmx
            rw [hc]
            go_wp2_with fail
            go_ret
            exact ⟨rfl, HBX.out⟩

theorem tmod_32 (x : Int) : -31 ≤ x.tmod 32 ∧ x.tmod 32 ≤ 31 := by
  have a := Int.tmod_lt_of_pos x (show (0 : Int) < 32 by omega)
  have b := Int.lt_tmod_of_pos x (show (0 : Int) < 32 by omega)
  omega
theorem month_in (n : Int) (_n1 : 0 ≤ n) : 2000 ≤ 2000 + n % 1200 / 12 ∧ 2000 + n % 1200 / 12 ≤ 2099 ∧ 1 ≤ n % 12 + 1 ∧ n % 12 + 1 ≤ 12 := by omega
theorem mdays_any (n x : Int) (w : World) (n1 : 0 ≤ n) (n2 : n ≤ 65535) (x1 : -128 ≤ x) (x2 : x ≤ 127) :
    Calls Try.prog 6 #[.int .u16 n, .int .i8 x] w (Ans w (.bool true)) := by
  obtain ⟨a1, a2, a3, a4⟩ := month_in n n1
  have hp := Cal.dim_pos (2000 + n % 1200 / 12) (n % 12 + 1) a3 a4
  have hp2 := (Cal.dim_bd (2000 + n % 1200 / 12) (n % 12 + 1)).2
  have hb : Cal.isB (2000 + n % 1200 / 12) (n % 12 + 1) 1 = true := by rw [Cal.isB_iff]; omega
  have hn := Cal.num_bd _ _ _ a1 a2 hb
  have ht := tmod_32 x
  exact mdays_walk n x _ _ _ _ _ w n1 n2 x1 x2 rfl rfl rfl (numE_0 _ _ _ hb a1 a2) rfl a1 a2 a3 a4 ht.1 ht.2 hn.1 hn.2 (by omega) hp2

end Go.Proofs.Ytigbfmlpbobpfaa

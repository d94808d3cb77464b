/- RuleOrdinals walked: of the days of a month each weekday's first, second .. and last, last but one .. -/
import Derived.Test.YtigbfmlpbobpfaaRuX
import Derived.Test.YtigbfmlpbobpfaaRuMonthDays
namespace Go.Proofs.Ytigbfmlpbobpfaa
open Go.RowKit Rul Go.Sort

/-- how many of the first j days have the weekday whose first one is the f-th; which days these are. -/
def cn (f j : Nat) : Nat := (j + 6 - f) / 7
def al (fm : Int) (f j : Nat) : List Int := (List.range (cn f j)).map fun (t : Nat) => fm + (f : Int) + 7 * (t : Int)
theorem cn_0 (f : Nat) (h : f ≤ 6) : cn f 0 = 0 := by unfold cn; omega
theorem cn_yes (f j : Nat) (_h : f ≤ 6) (hj : j % 7 = f) : cn f (j + 1) = cn f j + 1 ∧ f + 7 * cn f j = j := by unfold cn; omega
theorem cn_no (f j : Nat) (h : f ≤ 6) (hj : ¬ j % 7 = f) : cn f (j + 1) = cn f j := by unfold cn; omega
theorem cn_le (f j : Nat) : cn f j ≤ j + 6 := by unfold cn; omega
theorem al_len (fm : Int) (f j : Nat) : (al fm f j).length = cn f j := by simp [al]
theorem al_0 (fm : Int) (f : Nat) (h : f ≤ 6) : al fm f 0 = [] := by unfold al; rw [cn_0 f h]; rfl
theorem al_yes (fm : Int) (f j : Nat) (h : f ≤ 6) (hj : j % 7 = f) : al fm f (j + 1) = al fm f j ++ [fm + (j : Int)] := by
  obtain ⟨e1, e2⟩ := cn_yes f j h hj
  unfold al
  rw [e1, List.range_succ, List.map_append, List.map_cons, List.map_nil]
  congr 2
  omega
theorem al_no (fm : Int) (f j : Nat) (h : f ≤ 6) (hj : ¬ j % 7 = f) : al fm f (j + 1) = al fm f j := by unfold al; rw [cn_no f j h hj]
theorem al_get (fm : Int) (f j t : Nat) (h : t < (al fm f j).length) : (al fm f j)[t] = fm + (f : Int) + 7 * (t : Int) := by simp [al]
theorem wd_iff (fm dd : Int) (f i : Nat) (h1 : 0 ≤ dd) (h2 : dd ≤ 6) (hf : (dd - Cal.wday fm) % 7 = (f : Int)) : (Cal.wday (fm + (i : Int)) == dd) = decide (i % 7 = f) := by
  rw [Bool.eq_iff_iff, beq_iff_eq, decide_eq_true_eq]
  unfold Cal.wday at *
  omega
def hitB (f i N : Nat) (k : Int) (t : Nat) : Bool := decide (f + 7 * t = i) && (decide (k = 0) || (decide (k = (t : Int) + 1) || decide (k = (t : Int) - (N : Int))))
def wB (f i N : Nat) (k : Int) (t : Nat) : Bool := (List.range t).any (hitB f i N k)
theorem wB_succ (f i N : Nat) (k : Int) (t : Nat) : wB f i N k (t + 1) = (wB f i N k t || hitB f i N k t) := by unfold wB; rw [List.range_succ, List.any_append]; simp
theorem ord_rec (k dd : Int) (h1 : -5 ≤ k) (h2 : k ≤ 5) (h3 : 0 ≤ dd) (h4 : dd ≤ 6) : recB ⟨3, 1, 0, -1, [(k, dd)], [], []⟩ = true := by
  have hw : wdOk (k, dd) = true := by unfold wdOk; rw [(btw_iff _ _ _).2 ⟨h1, h2⟩, (btw_iff _ _ _).2 ⟨h3, h4⟩]; rfl
  have hl : listB wdOk wdLt (0, 0) [(k, dd)] = true := listB_yes _ _ _ _ (by simp) fun i hi => by
    obtain rfl : i = 0 := by simpa using hi
    rw [stepB_0 _ _ _ _ (by simp)]; exact hw
  unfold recB wellB
  simp only [hl]
  rfl
theorem ord_fits (y m fm k dd : Int) (f i sz : Nat) (h1 : 2000 ≤ y) (h2 : y ≤ 2099) (m1 : 1 ≤ m) (m2 : m ≤ 12) (hn : numE y m 1 = (fm, 0)) (hs : Cal.dim y m = (sz : Int)) (k1 : -5 ≤ k) (k2 : k ≤ 5) (d1 : 0 ≤ dd) (d2 : dd ≤ 6)
    (hf : (dd - Cal.wday fm) % 7 = (f : Int)) (hi : i < sz) : fitsB ⟨3, 1, 0, -1, [(k, dd)], [], []⟩ (fm + (i : Int)) = wB f i (cn f sz) k (cn f sz) := by
  obtain ⟨hd, hp⟩ := place_at y m fm sz i h1 h2 m1 m2 hn hs (by omega)
  have hw := wd_iff fm dd f i d1 d2 hf
  have hf6 : f ≤ 6 := by omega
  unfold fitsB
  rw [show dayB (fm + (i : Int)) = true from decide_eq_true hd, ord_rec k dd k1 k2 d1 d2, hp]
  show (true && (true && (true && (true && (false || List.any [(k, dd)] (wdFit _)))))) = _
  simp only [Bool.true_and, Bool.false_or, List.any_cons, List.any_nil, Bool.or_false]
  rw [wdFit_eq]
  rw [Bool.eq_iff_iff]
  unfold wB
  rw [List.any_eq_true]
  simp only [Bool.and_eq_true, Bool.or_eq_true, beq_iff_eq, List.mem_range, hitB, decide_eq_true_eq]
  have hwi : (Cal.wday (fm + (i : Int)) = dd) ↔ i % 7 = f := by
    rw [← beq_iff_eq (a := Cal.wday (fm + (i : Int))), hw, decide_eq_true_eq]
  constructor
  · rintro ⟨e, h⟩
    have hm := hwi.1 e.symm
    refine ⟨i / 7, by unfold cn; omega, by omega, ?_⟩
    unfold cn
    omega
  · rintro ⟨t, ht, e, h⟩
    have hm : i % 7 = f := by omega
    refine ⟨(hwi.2 hm).symm, ?_⟩
    unfold cn at ht h
    omega

set_option maxRecDepth 100000 in
set_option maxHeartbeats 4000000 in
theorem ord_walk (n x z y m fm k dd : Int) (f sz N : Nat) (w : World) (n1 : 0 ≤ n) (n2 : n ≤ 65535) (z1 : 0 ≤ z) (z2 : z ≤ 255) (hy : 2000 + n % 1200 / 12 = y) (hm : n % 12 + 1 = m) (hk : x.tmod 6 = k) (hdd : z % 7 = dd)
    (hnum : numE y m 1 = (fm, 0)) (hsz : Cal.dim y m = (sz : Int)) (hf : (dd - Cal.wday fm) % 7 = (f : Int)) (hN : cn f sz = N) (hy1 : 2000 ≤ y) (hy2 : y ≤ 2099) (hm1 : 1 ≤ m) (hm2 : m ≤ 12) (hk1 : -5 ≤ k) (hk2 : k ≤ 5) (hd1 : 0 ≤ dd) (hd2 : dd ≤ 6)
    (f1 : 0 ≤ fm) (f2 : fm < 36525) (s28 : 28 ≤ sz) (s31 : sz ≤ 31) :
    Calls Try.prog 5 #[.int .u16 n, .int .i8 x, .int .u8 z] w (Ans w (.bool true)) := by
  have hf6 : f ≤ 6 := by omega
  have HY := hide hy
  have HM := hide hm
  have HK := hide hk
  have HD := hide hdd
  have HNUM := hide hnum
  have HSZ := hide hsz
  have HFF := hide hf
  have HN := hide hN
  have hN1 : 0 < N := by rw [← hN]; unfold cn; omega
  have hN2 : N ≤ 40 := by rw [← hN]; unfold cn; omega
  have t1 : -5 ≤ x.tmod 6 := by rw [hk]; exact hk1
  have t2 : x.tmod 6 ≤ 5 := by rw [hk]; exact hk2
  clear hy hm hk hdd hnum hsz hf hN
  go_enter Try.func5, Try.ntmps5
  go_wp2_with fail
  refine (known_any _).mono ?_
  rintro e w1 ⟨rfl, hb1⟩
  have HBX := hide hb1
  clear hb1
  go_wp2_with fail
  rw [HY.out, HM.out]
  refine (rnumber_is y m 1 fm 0 _ HNUM.out).mono ?_
  rintro e w2 ⟨rfl, hb2⟩
  have c0 : w2.cell? ⟨w1.heap.size, 0, none⟩ = some (.int .i64 y) := cell_keep hb2 (by rw [World.cell?_alloc_at _ _ _ _ rfl]; rfl)
  have c1 : w2.cell? ⟨w1.heap.size, 1, none⟩ = some (.int .i64 m) := cell_keep hb2 (by rw [World.cell?_alloc_at _ _ _ _ rfl]; rfl)
  replace HBX := hide (andthen (more HBX.out (.cells #[.int .i64 y, .int .i64 m, .int .i64 1] 38)) hb2)
  clear hb2
  go_wp2_with fail
  refine (rlength_at y m (sz : Int) _ HSZ.out).mono ?_
  rintro e w3 ⟨rfl, rfl⟩
  clear c0 c1
  go_wp2_with fail
  rw [HK.out, HD.out]
  clear t1 t2
  have HB2 := hide (more (more (start w2) (.cells #[.int .i64 k, .int .i64 dd] 33)) (.cells #[.int .i64 3, .int .i64 1, .int .i64 0, .int .i64 (-1), .slice (some ⟨w2.heap.size, 0, none⟩) 1 1, .slice none 0 0, .slice none 0 0] 25))
  have L0 : Hid (Lies ((w2.alloc (.cells #[.int .i64 k, .int .i64 dd] 33)).alloc (.cells #[.int .i64 3, .int .i64 1, .int .i64 0, .int .i64 (-1), .slice (some ⟨w2.heap.size, 0, none⟩) 1 1, .slice none 0 0, .slice none 0 0] 25)) (some ⟨w2.heap.size, 0, none⟩) 1 none 0 none 0 [(k, dd)] [] []) := hide (Lies.keep (lies_day (rowD_one w2 k dd 33)) (more (start _) _))
  have s0 : ((w2.alloc (.cells #[.int .i64 k, .int .i64 dd] 33)).alloc (.cells #[.int .i64 3, .int .i64 1, .int .i64 0, .int .i64 (-1), .slice (some ⟨w2.heap.size, 0, none⟩) 1 1, .slice none 0 0, .slice none 0 0] 25)).cell? ⟨w2.heap.size + 1, 0, none⟩ = some (.int .i64 3) := by rw [World.cell?_alloc_at _ _ _ _ (by simp)]; rfl
  have s1 : ((w2.alloc (.cells #[.int .i64 k, .int .i64 dd] 33)).alloc (.cells #[.int .i64 3, .int .i64 1, .int .i64 0, .int .i64 (-1), .slice (some ⟨w2.heap.size, 0, none⟩) 1 1, .slice none 0 0, .slice none 0 0] 25)).cell? ⟨w2.heap.size + 1, 1, none⟩ = some (.int .i64 1) := by rw [World.cell?_alloc_at _ _ _ _ (by simp)]; rfl
  have s2 : ((w2.alloc (.cells #[.int .i64 k, .int .i64 dd] 33)).alloc (.cells #[.int .i64 3, .int .i64 1, .int .i64 0, .int .i64 (-1), .slice (some ⟨w2.heap.size, 0, none⟩) 1 1, .slice none 0 0, .slice none 0 0] 25)).cell? ⟨w2.heap.size + 1, 2, none⟩ = some (.int .i64 0) := by rw [World.cell?_alloc_at _ _ _ _ (by simp)]; rfl
  have s3 : ((w2.alloc (.cells #[.int .i64 k, .int .i64 dd] 33)).alloc (.cells #[.int .i64 3, .int .i64 1, .int .i64 0, .int .i64 (-1), .slice (some ⟨w2.heap.size, 0, none⟩) 1 1, .slice none 0 0, .slice none 0 0] 25)).cell? ⟨w2.heap.size + 1, 3, none⟩ = some (.int .i64 (-1)) := by rw [World.cell?_alloc_at _ _ _ _ (by simp)]; rfl
  have s4 : ((w2.alloc (.cells #[.int .i64 k, .int .i64 dd] 33)).alloc (.cells #[.int .i64 3, .int .i64 1, .int .i64 0, .int .i64 (-1), .slice (some ⟨w2.heap.size, 0, none⟩) 1 1, .slice none 0 0, .slice none 0 0] 25)).cell? ⟨w2.heap.size + 1, 4, none⟩ = some (.slice (some ⟨w2.heap.size, 0, none⟩) 1 1) := by rw [World.cell?_alloc_at _ _ _ _ (by simp)]; rfl
  have s5 : ((w2.alloc (.cells #[.int .i64 k, .int .i64 dd] 33)).alloc (.cells #[.int .i64 3, .int .i64 1, .int .i64 0, .int .i64 (-1), .slice (some ⟨w2.heap.size, 0, none⟩) 1 1, .slice none 0 0, .slice none 0 0] 25)).cell? ⟨w2.heap.size + 1, 5, none⟩ = some (.slice none 0 0) := by rw [World.cell?_alloc_at _ _ _ _ (by simp)]; rfl
  have s6 : ((w2.alloc (.cells #[.int .i64 k, .int .i64 dd] 33)).alloc (.cells #[.int .i64 3, .int .i64 1, .int .i64 0, .int .i64 (-1), .slice (some ⟨w2.heap.size, 0, none⟩) 1 1, .slice none 0 0, .slice none 0 0] 25)).cell? ⟨w2.heap.size + 1, 6, none⟩ = some (.slice none 0 0) := by rw [World.cell?_alloc_at _ _ _ _ (by simp)]; rfl
  generalize ((w2.alloc (.cells #[.int .i64 k, .int .i64 dd] 33)).alloc (.cells #[.int .i64 3, .int .i64 1, .int .i64 0, .int .i64 (-1), .slice (some ⟨w2.heap.size, 0, none⟩) 1 1, .slice none 0 0, .slice none 0 0] 25)) = W at *
  replace HBX := hide (andthen HBX.out HB2.out)
  generalize w2.heap.size = X at *
  clear HB2
  go_loopw [14, 15] (fun v i wr => ∃ j : Nat, j ≤ sz ∧ i = .int .i64 j ∧ OwnI wr W.heap.size v (al fm f j) ∧ Below W.heap.size W wr) (fun _ i _ => sz - (intOf i).toNat)
  case atStart => exact ⟨0, Nat.zero_le _, rfl, by rw [al_0 fm f hf6]; exact ownI_nil _ _, start _⟩
  case round =>
    obtain ⟨j, hj, rfl, hown, hbw⟩ := hrel
    obtain ⟨A, cap, hv, hrow⟩ := OwnI.row hown
    rw [al_len] at hv
    subst hv
    have hcl := cn_le f j
    by_cases hlt : j < sz
    · have hlt' : (j : Int) < (sz : Int) := by omega
      have hws := wd_iff fm dd f j hd1 hd2 HFF.out
      have HBB := hide hbw
      have hsz2 := hbw.size
      have hal : (al fm f j).length ≤ 1000000 := by rw [al_len]; omega
      clear hbw hrow s0 s1 s2 s3 s4 s5 s6
      by_cases hq : j % 7 = f
      · rw [decide_eq_true hq] at hws
        have HA := hide (al_yes fm f j hf6 hq)
        have HCN := hide (cn_yes f j hf6 hq).1
        clear hq
        go_wp2_with (first | (go_at_call 21; refine (rWeekday_any _ _).mono ?_; rintro e w5 ⟨rfl, rfl⟩) | (at_builtin; refine wp_oneI (l := al fm f j) (p := fm + (j : Int)) rfl _ _ rfl rfl rfl rfl hown hsz2 hal ?_; intro v' w' hown' hb'; obtain ⟨A2, cap2, hv', _⟩ := OwnI.row hown'; rw [← HA.out, al_len] at hv'; subst hv'; have HO := hide hown'; have HB3 := hide (HBB.out.trans hb'); clear hown' hb' hown))
        go_roundw
        case rel => exact ⟨j + 1, by omega, by go_num, by rw [HA.out]; exact HO.out, HB3.out⟩
        case measure => simp [intOf]; omega
      · rw [decide_eq_false hq] at hws
        have HA := hide (al_no fm f j hf6 hq)
        have HCN := hide (cn_no f j hf6 hq)
        have HO := hide hown
        clear hq hown
        go_wp2_with (go_at_call 21; refine (rWeekday_any _ _).mono ?_; rintro e w5 ⟨rfl, rfl⟩)
        go_roundw
        case rel => exact ⟨j + 1, by omega, by go_num, by rw [HA.out]; exact HO.out, HBB.out⟩
        case measure => simp [intOf]; omega
    · obtain rfl : j = sz := by omega
      rw [HN.out] at hown hcl
      have hne : al fm f j ≠ [] := fun h => by have := al_len fm f j; rw [h, HN.out] at this; simp at this; omega
      obtain ⟨b1, o1, rfl, hb1, hc1⟩ := hrow hne
      have HC1 := hide hc1
      have hal := al_len fm f j
      rw [HN.out] at hal
      have HAL := hide hal
      replace HBX := hide (andthen HBX.out hbw)
      replace L0 := hide (L0.out.keep hbw)
      replace s0 := cell_keep hbw s0
      replace s1 := cell_keep hbw s1
      replace s2 := cell_keep hbw s2
      replace s3 := cell_keep hbw s3
      replace s4 := cell_keep hbw s4
      replace s5 := cell_keep hbw s5
      replace s6 := cell_keep hbw s6
      clear hbw hc1 hown hne hal
      go_wp2_with fail
      rw [HN.out]
      obtain ⟨wo, rfl⟩ : ∃ wo : World, wo = wr := ⟨_, rfl⟩
      go_loopw [16] (fun i wq => ∃ i' : Nat, i' ≤ j ∧ i = .int .i64 i' ∧ Below wo.heap.size wo wq) (fun i _ => j - (intOf i).toNat)
      case atStart => exact ⟨0, Nat.zero_le _, rfl, start _⟩
      case round =>
        obtain ⟨i, hi, rfl, hbq⟩ := hrel
        by_cases hil : i < j
        · have hil' : (i : Int) < (j : Int) := by omega
          have HO := hide (ord_fits y m fm k dd f i j hy1 hy2 hm1 hm2 HNUM.out HSZ.out hk1 hk2 hd1 hd2 HFF.out hil)
          rw [HN.out] at HO
          have HBQ := hide hbq
          have L := hide (L0.out.keep hbq)
          replace s0 := cell_keep hbq s0
          replace s1 := cell_keep hbq s1
          replace s2 := cell_keep hbq s2
          replace s3 := cell_keep hbq s3
          replace s4 := cell_keep hbq s4
          replace s5 := cell_keep hbq s5
          replace s6 := cell_keep hbq s6
          have hcell : ∀ t : Nat, t < N → wr.cell? ⟨b1, o1 + t, none⟩ = some (.int .i64 (fm + (f : Int) + 7 * (t : Int))) := fun t ht => by
            have ht2 : t < (al fm f j).length := by rw [HAL.out]; exact ht
            rw [(hbq.cell (p := ⟨b1, _, none⟩) hb1).trans (HC1.out t ht2), al_get]
          have HCE := hide hcell
          clear hbq hcell
          go_wp2_with fail
          go_loop [17, 18] (fun b t => ∃ tt : Nat, tt ≤ N ∧ t = .int .i64 tt ∧ b = .bool (wB f i N k tt)) (fun _ t => N - (intOf t).toNat)
          case atStart => exact ⟨0, Nat.zero_le _, rfl, rfl⟩
          case round =>
            obtain ⟨t, ht, rfl, rfl⟩ := hrel
            by_cases htl : t < N
            · have p1 := HCE.out t htl
              have hi0 : (0 : Int) ≤ (t : Int) := by omega
              have hi1 : (t : Int) < (N : Int) := by omega
              cases hw : wB f i N k t
              · cases e1 : (fm + (f : Int) + 7 * (t : Int) == fm + (i : Int))
                · have HN := hide (show wB f i N k (t + 1) = false by rw [wB_succ]; unfold hitB; rw [hw, decide_eq_false (show ¬ f + 7 * t = i by rw [beq_eq_false_iff_ne] at e1; omega)]; rfl)
                  go_wp2_with fail
                  go_round
                  case rel => exact ⟨t + 1, by omega, by go_num, by rw [HN.out]⟩
                  case measure => simp [intOf]; omega
                · have he : f + 7 * t = i := by rw [beq_iff_eq] at e1; omega
                  have he2 := decide_eq_true he
                  clear he
                  cases e2 : (k == 0)
                  · have d2 : decide (k = 0) = false := e2
                    cases e3 : (k == (t : Int) + 1)
                    · have d3 : decide (k = (t : Int) + 1) = false := e3
                      cases e4 : (k == (t : Int) - (N : Int))
                      · have HN := hide (show wB f i N k (t + 1) = false by rw [wB_succ]; unfold hitB; rw [hw, he2, d2, d3, show decide (k = (t : Int) - (N : Int)) = false from e4]; rfl)
                        go_wp2_with fail
                        go_round
                        case rel => exact ⟨t + 1, by omega, by go_num, by rw [HN.out]⟩
                        case measure => simp [intOf]; omega
                      · have HN := hide (show wB f i N k (t + 1) = true by rw [wB_succ]; unfold hitB; rw [hw, he2, d2, d3, show decide (k = (t : Int) - (N : Int)) = true from e4]; rfl)
                        go_wp2_with fail
                        go_round
                        case rel => exact ⟨t + 1, by omega, by go_num, by rw [HN.out]⟩
                        case measure => simp [intOf]; omega
                    · have HN := hide (show wB f i N k (t + 1) = true by rw [wB_succ]; unfold hitB; rw [hw, he2, d2, show decide (k = (t : Int) + 1) = true from e3]; rfl)
                      go_wp2_with fail
                      go_round
                      case rel => exact ⟨t + 1, by omega, by go_num, by rw [HN.out]⟩
                      case measure => simp [intOf]; omega
                  · have HN := hide (show wB f i N k (t + 1) = true by rw [wB_succ]; unfold hitB; rw [hw, he2, show decide (k = 0) = true from e2]; rfl)
                    go_wp2_with fail
                    go_round
                    case rel => exact ⟨t + 1, by omega, by go_num, by rw [HN.out]⟩
                    case measure => simp [intOf]; omega
              · have HN := hide (show wB f i N k (t + 1) = true by rw [wB_succ]; unfold hitB; rw [hw]; rfl)
                go_wp2_with fail
                go_round
                case rel => exact ⟨t + 1, by omega, by go_num, by rw [HN.out]⟩
                case measure => simp [intOf]; omega
            · obtain rfl : t = N := by omega
              cases hw : wB f i t k t
              all_goals
                have HW := hide (HO.out.trans hw)
                clear hw
                go_wp2_with fail
                refine (ans_is (fits_any 3 1 0 (-1) (some ⟨X, 0, none⟩) none none 1 1 0 0 0 0 [(k, dd)] [] [] (fm + (i : Int)) _ L.out) HW.out).mono ?_
                rintro e w6 ⟨rfl, hb6⟩
                have HB6 := hide (andthen HBQ.out hb6)
                clear hb6
                go_wp2_with fail
                go_roundw
                case rel => exact ⟨i + 1, by omega, by go_num, HB6.out⟩
                case measure => simp [intOf]; omega
        · obtain rfl : i = j := by omega
          go_wp2_with fail
          go_ret
          exact ⟨rfl, andthen HBX.out hbq⟩

theorem tmod_6 (x : Int) : -5 ≤ x.tmod 6 ∧ x.tmod 6 ≤ 5 := by
  have a := Int.tmod_lt_of_pos x (show (0 : Int) < 6 by omega)
  have b := Int.lt_tmod_of_pos x (show (0 : Int) < 6 by omega)
  omega
theorem ord_any (n x z : Int) (w : World) (n1 : 0 ≤ n) (n2 : n ≤ 65535) (_x1 : -128 ≤ x) (_x2 : x ≤ 127) (z1 : 0 ≤ z) (z2 : z ≤ 255) :
    Calls Try.prog 5 #[.int .u16 n, .int .i8 x, .int .u8 z] w (Ans w (.bool true)) := by
  obtain ⟨a1, a2, a3, a4⟩ := month_in n n1
  have hp := Cal.dim_pos (2000 + n % 1200 / 12) (n % 12 + 1) a3 a4
  have hp2 := (Cal.dim_bd (2000 + n % 1200 / 12) (n % 12 + 1)).2
  have hb : Cal.isB (2000 + n % 1200 / 12) (n % 12 + 1) 1 = true := by rw [Cal.isB_iff]; omega
  have hn := Cal.num_bd _ _ _ a1 a2 hb
  have ht := tmod_6 x
  obtain ⟨sz, hsz⟩ : ∃ sz : Nat, Cal.dim (2000 + n % 1200 / 12) (n % 12 + 1) = (sz : Int) := ⟨(Cal.dim (2000 + n % 1200 / 12) (n % 12 + 1)).toNat, by omega⟩
  obtain ⟨f, hf⟩ : ∃ f : Nat, (z % 7 - Cal.wday (Cal.num (2000 + n % 1200 / 12) (n % 12 + 1) 1)) % 7 = (f : Int) := ⟨((z % 7 - Cal.wday (Cal.num (2000 + n % 1200 / 12) (n % 12 + 1) 1)) % 7).toNat, by omega⟩
  exact ord_walk n x z _ _ _ _ _ f sz _ w n1 n2 z1 z2 rfl rfl rfl rfl (numE_0 _ _ _ hb a1 a2) hsz hf rfl a1 a2 a3 a4 ht.1 ht.2 (by omega) (by omega) hn.1 hn.2 (by omega) (by omega)

end Go.Proofs.Ytigbfmlpbobpfaa

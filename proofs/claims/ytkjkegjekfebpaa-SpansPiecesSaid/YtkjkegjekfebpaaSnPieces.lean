/- SpansPieces walked: so many pieces apart, and what lies between them. -/
import Derived.Test.YtkjkegjekfebpaaSnV
import Derived.Test.YtkjkegjekfebpaaSnMathC
namespace Go.Proofs.Ytkjkegjekfebpaa
open Go.RowKit Spn

theorem tri (k a p : Int) : ((k % p == 0) = false) ∨ ((k % p == 0) = true ∧ (a % p == 0) = false) ∨ ((k % p == 0) = true ∧ (a % p == 0) = true) := by
  cases k % p == 0 <;> cases a % p == 0 <;> simp
/-- how often two can be added till the rest by 105 is one. -/
def steps (a : Nat) : Nat := ((106 - a % 105) * 53) % 105
theorem steps_tab : ∀ r : Fin 105, r.val ≠ 1 → ((106 - (r.val + 2) % 105) * 53) % 105 + 1 = ((106 - r.val) * 53) % 105 := by decide
theorem steps_next (a : Nat) (h : a % 105 ≠ 1) : steps (a + 2) + 1 = steps a := by
  unfold steps
  have := steps_tab ⟨a % 105, Nat.mod_lt _ (by omega)⟩ h
  simp only at this
  rw [show (a + 2) % 105 = (a % 105 + 2) % 105 by omega]
  exact this
theorem steps_le (a : Nat) : steps a ≤ 104 := by unfold steps; omega
theorem steps_hit (a : Nat) (p : Int) (hp : p = 3 ∨ p = 5 ∨ p = 7) (h : ((a : Int) % p == 0) = true) : a % 105 ≠ 1 := by
  have h := eq_of_beq h
  rcases hp with rfl | rfl | rfl <;> omega
/-- the deep of a tree of one span. -/
theorem flat_one {l : List Sp} {d : Nat} (h : Flat l d) (hl : l.length = 1) : d = 1 := by
  have h1 := h.le
  have h2 := h.pos (by intro e; rw [e] at hl; simp at hl)
  omega
/-- what is used of the products. -/
theorem prods (k a g i : Nat) (hk1 : 1 ≤ k) (hk2 : k ≤ 256) (ha : a ≤ 800) (hg2 : g ≤ 20) (hi : i ≤ 256) :
    (0 ≤ (i : Int) * (a : Int) ∧ (i : Int) * (a : Int) ≤ 204800) ∧ (0 ≤ ((i : Int) * (a : Int) % (k : Int)) * ((g : Int) + 2) ∧ ((i : Int) * (a : Int) % (k : Int)) * ((g : Int) + 2) ≤ 5610) ∧
    (0 ≤ (i : Int) * ((g : Int) + 2) ∧ (i : Int) * ((g : Int) + 2) ≤ 5632) ∧ (0 ≤ ((i : Int) + 1) * ((g : Int) + 2) ∧ ((i : Int) + 1) * ((g : Int) + 2) ≤ 5654) ∧ (0 ≤ ((k : Int) - 1) * ((g : Int) + 2) ∧ ((k : Int) - 1) * ((g : Int) + 2) ≤ 5610) := by
  have up : ∀ x y c d : Int, 0 ≤ x → x ≤ c → 0 ≤ y → y ≤ d → 0 ≤ x * y ∧ x * y ≤ c * d := fun x y c d h1 h2 h3 h4 =>
    ⟨Int.mul_nonneg h1 h3, Int.le_trans (Int.mul_le_mul_of_nonneg_right h2 h3) (Int.mul_le_mul_of_nonneg_left h4 (by omega))⟩
  have m1 := Int.emod_nonneg ((i : Int) * (a : Int)) (by omega : (k : Int) ≠ 0)
  have m2 := Int.emod_lt_of_pos ((i : Int) * (a : Int)) (by omega : 0 < (k : Int))
  have h1 := up i a 256 800 (by omega) (by omega) (by omega) (by omega)
  have h2 := up ((i : Int) * (a : Int) % (k : Int)) ((g : Int) + 2) 255 22 m1 (by omega) (by omega) (by omega)
  have h3 := up i ((g : Int) + 2) 256 22 (by omega) (by omega) (by omega) (by omega)
  have h4 := up ((i : Int) + 1) ((g : Int) + 2) 257 22 (by omega) (by omega) (by omega) (by omega)
  have h5 := up ((k : Int) - 1) ((g : Int) + 2) 255 22 (by omega) (by omega) (by omega) (by omega)
  exact ⟨h1, h2, h3, h4, h5⟩

set_option maxRecDepth 100000 in
set_option maxHeartbeats 8000000 in
theorem pieces_main (x z u : Int) (k s g : Nat) (w : World) (hx0 : 0 ≤ x) (hx1 : x ≤ 255) (hz0 : 0 ≤ z) (hz1 : z ≤ 255) (hu0 : 0 ≤ u) (hu1 : u ≤ 255) (hk : x + 1 = (k : Int)) (hs : 2 * z + 1 = (s : Int)) (hg : u % 20 + 1 = (g : Int)) :
    Calls Try.prog 4 #[.int .u8 x, .int .u8 z, .int .u8 u] w fun e w' => e = .returned (.bool true) ∧ Below w.heap.size w w' := by
  have hk1 : 1 ≤ k := by omega
  have hk2 : k ≤ 256 := by omega
  have hs2 : s ≤ 511 := by omega
  have hg1 : 1 ≤ g := by omega
  have hg2 : g ≤ 20 := by omega
  have HK := hide hk
  have HSS := hide hs
  have HG := hide hg
  have HB := start w
  clear hk hs hg
  go_enter Try.func4, Try.ntmps4
  go_wp2_with fail
  refine (known_any _).mono ?_
  rintro e w1 ⟨rfl, hb⟩
  replace HB := andthen HB hb
  clear hb
  go_wp2_with fail
  rw [HK.out, HSS.out]
  clear hx0 hx1 hz0 hz1
  have HB1 := hide HB
  clear HB
  go_loop [8] (fun v => ∃ a : Nat, v = .int .i64 (a : Int) ∧ a + 2 * steps a ≤ 800) (fun v => steps (intOf v).toNat)
  case atStart => exact ⟨s, rfl, by have := steps_le s; omega⟩
  case round =>
  obtain ⟨a, rfl, hm⟩ := hrel
  rcases tri (k : Int) (a : Int) 3 with h3 | ⟨h3, g3⟩ | ⟨h3, g3⟩ <;> rcases tri (k : Int) (a : Int) 5 with h5 | ⟨h5, g5⟩ | ⟨h5, g5⟩ <;> rcases tri (k : Int) (a : Int) 7 with h7 | ⟨h7, g7⟩ | ⟨h7, g7⟩
  all_goals first
    | (
      have HN := hide (steps_next a (steps_hit a 3 (by decide) g3))
      have HM := hide hm
      go_wp2_with fail
      go_round
      case rel => exact ⟨a + 2, by go_num, by have := HN.out; have := HM.out; omega⟩
      case measure =>
        have := HN.out
        have e : intOf (Value.int .i64 ((a : Int) + 2)) = ((a + 2 : Nat) : Int) := by simp [intOf]
        show steps (intOf (Value.int .i64 ((a : Int) + 2))).toNat < steps (intOf (Value.int .i64 (a : Int))).toNat
        rw [e]
        simp only [intOf, Int.toNat_natCast]
        omega)
    | (
      have HN := hide (steps_next a (steps_hit a 5 (by decide) g5))
      have HM := hide hm
      go_wp2_with fail
      go_round
      case rel => exact ⟨a + 2, by go_num, by have := HN.out; have := HM.out; omega⟩
      case measure =>
        have := HN.out
        have e : intOf (Value.int .i64 ((a : Int) + 2)) = ((a + 2 : Nat) : Int) := by simp [intOf]
        show steps (intOf (Value.int .i64 ((a : Int) + 2))).toNat < steps (intOf (Value.int .i64 (a : Int))).toNat
        rw [e]
        simp only [intOf, Int.toNat_natCast]
        omega)
    | (
      have HN := hide (steps_next a (steps_hit a 7 (by decide) g7))
      have HM := hide hm
      go_wp2_with fail
      go_round
      case rel => exact ⟨a + 2, by go_num, by have := HN.out; have := HM.out; omega⟩
      case measure =>
        have := HN.out
        have e : intOf (Value.int .i64 ((a : Int) + 2)) = ((a + 2 : Nat) : Int) := by simp [intOf]
        show steps (intOf (Value.int .i64 ((a : Int) + 2))).toNat < steps (intOf (Value.int .i64 (a : Int))).toNat
        rw [e]
        simp only [intOf, Int.toNat_natCast]
        omega)
    | skip
  all_goals
    have hm1 : a ≤ 800 := by omega
    clear hm
    go_wp2_with fail
    rw [HG.out]
    refine (new_any _).mono ?_
    rintro e w2 ⟨gs, rfl, hgs, hs, hb⟩
    have hlo : w.heap.size ≤ gs := Nat.le_trans HB1.out.size hgs
    have HS2 := hide hs
    have HB2 := hide (andthen HB1.out hb)
    clear hb hgs hs hu0 hu1
    go_wp2_with fail
    go_loopw [11] (fun v wr => ∃ i : Nat, i ≤ k ∧ v = .int .i64 (i : Int) ∧ SetAt wr gs (pcs (a : Int) (k : Int) ((g : Int) + 2) i) ∧ Below w.heap.size w wr) (fun v _ => k - (intOf v).toNat)
    case atStart => exact ⟨0, Nat.zero_le _, rfl, HS2.out, HB2.out⟩
    case round =>
      obtain ⟨i, hi, rfl, hs, HB⟩ := hrel
      have hlen := pcs_len (a : Int) (k : Int) ((g : Int) + 2) i
      by_cases hlt : i < k
      · obtain ⟨⟨p1, p2⟩, ⟨p3, p4⟩, _, _, _⟩ := prods k a g i hk1 hk2 hm1 hg2 (by omega)
        have HT : Hid (pcs (a : Int) (k : Int) ((g : Int) + 2) (i + 1) = addR (pcs (a : Int) (k : Int) ((g : Int) + 2) i) ((i : Int) * (a : Int) % (k : Int) * ((g : Int) + 2), (i : Int) * (a : Int) % (k : Int) * ((g : Int) + 2) + 2)) := hide rfl
        have hkp : (0 : Int) < (k : Int) := by omega
        have HS := hide hs
        have HBr := hide HB
        clear hs HB
        go_wp2_with fail
        refine (s_any _ _ _).mono ?_
        rintro e w5 ⟨rfl, hb⟩
        have hs5 := HS.out.keep hb
        have hB5 := andthen HBr.out hb
        clear hb
        go_wp2_with fail
        refine (addSet_any gs _ ((i : Int) * (a : Int) % (k : Int) * ((g : Int) + 2)) ((i : Int) * (a : Int) % (k : Int) * ((g : Int) + 2) + 2) _ hs5 (by omega)).mono ?_
        rw [← HT.out]
        rintro e w6 ⟨rfl, hs6, hc⟩
        have HB6 := hide (hc.below hB5 hB5.size hlo)
        have HS6 := hide hs6
        clear hc hs5 hB5 hs6
        go_wp2_with fail
        go_roundw
        case rel => exact ⟨i + 1, by omega, by go_num, HS6.out, HB6.out⟩
        case measure => simp [intOf]; omega
      · obtain rfl : i = k := by omega
        obtain ⟨_, _, _, _, ⟨p9, p10⟩⟩ := prods i a g i hk1 hk2 hm1 hg2 (by omega)
        have HSUM := hide (pcs_sum (a : Int) (i : Int) ((g : Int) + 2) (by omega) (by omega) (by omega) i)
        have HONE := hide (pieces_one (a : Int) ((g : Int) + 2) i hk1 (by omega) (by omega))
        generalize pcs (a : Int) (i : Int) ((g : Int) + 2) i = P at *
        have HS := hide hs
        have HBr := hide HB
        clear hs HB
        go_wp2_with fail
        refine (setAll_any gs _ _ HS.out (by omega)).mono ?_
        rintro e w7 ⟨v, rfl, hown, hb⟩
        obtain ⟨A, c, rfl, _⟩ := Own.row hown
        have hs7 := HS.out.keep hb
        have hB7 := andthen HBr.out hb
        clear hown hb
        go_wp2_with fail
        refine (deep_is gs _ _ hs7).mono ?_
        rintro e w8 ⟨⟨d, rfl, hfl⟩, rfl⟩
        have hdl := hfl.le
        go_wp2_with fail
        refine (setLong_any gs _ _ hs7 (by omega)).mono ?_
        rw [HSUM.out]
        rintro e w9 ⟨rfl, hb⟩
        have hs9 := hs7.keep hb
        have hB9 := andthen hB7 hb
        clear hb hs7 hB7
        go_wp2_with fail
        refine (log_any _ _ (by omega)).mono ?_
        rintro e w10 ⟨q, rfl, hq1, hq2, rfl⟩
        have hdq := hfl.log (k := q) (by exact_mod_cast hq1)
        have hd1 : ¬ 2 * (q : Int) + 2 < (d : Int) := by omega
        have hd2 : decide (2 * (q : Int) + 2 < (d : Int)) = false := decide_eq_false hd1
        have HS9 := hide hs9
        have HB9 := hide hB9
        clear hq1 hfl hs9 hB9
        go_wp2_with fail
        go_loopw [15] (fun v wr => ∃ j : Nat, j + 1 ≤ i ∧ v = .int .i64 (j : Int) ∧ SetAt wr gs (fill P ((g : Int) + 2) j) ∧ Below w.heap.size w wr) (fun v _ => i - (intOf v).toNat)
        case atStart => exact ⟨0, by omega, rfl, HS9.out, HB9.out⟩
        case round =>
          obtain ⟨j, hj, rfl, hs, HB⟩ := hrel
          have hfl2 := fill_len P ((g : Int) + 2) j
          by_cases hlt2 : j + 1 < i
          · obtain ⟨_, _, ⟨p5, p6⟩, ⟨p7, p8⟩, _⟩ := prods i a g j hk1 hk2 hm1 hg2 (by omega)
            have HT : Hid (fill P ((g : Int) + 2) (j + 1) = addR (fill P ((g : Int) + 2) j) ((j : Int) * ((g : Int) + 2) + 1, ((j : Int) + 1) * ((g : Int) + 2) + 1)) := hide rfl
            have hlt3 : (j : Int) + 1 < (i : Int) := by omega
            have HS := hide hs
            have HBs := hide HB
            clear hs HB
            go_wp2_with fail
            refine (s_any _ _ _).mono ?_
            rintro e w11 ⟨rfl, hb⟩
            have hs5 := HS.out.keep hb
            have hB5 := andthen HBs.out hb
            clear hb
            go_wp2_with fail
            refine (addSet_any gs _ ((j : Int) * ((g : Int) + 2) + 1) (((j : Int) + 1) * ((g : Int) + 2) + 1) _ hs5 (by omega)).mono ?_
            rw [← HT.out]
            rintro e w12 ⟨rfl, hs6, hc⟩
            have HB6 := hide (hc.below hB5 hB5.size hlo)
            have HS6 := hide hs6
            clear hc hs5 hB5 hs6
            go_wp2_with fail
            go_roundw
            case rel => exact ⟨j + 1, by omega, by go_num, HS6.out, HB6.out⟩
            case measure => simp [intOf]; omega
          · obtain rfl : j = i - 1 := by omega
            have hlt3 : ¬ (((i - 1 : Nat) : Int) + 1 < (i : Int)) := by omega
            have HS := hide hs
            have HBs := hide HB
            clear hs HB
            go_wp2_with fail
            refine (s_any _ _ _).mono ?_
            rintro e w11 ⟨rfl, hb⟩
            have hs5 := HS.out.keep hb
            have hB5 := andthen HBs.out hb
            clear hb
            go_wp2_with fail
            refine (addSet_any gs _ 0 2 _ hs5 (by omega)).mono ?_
            rintro e w12 ⟨rfl, hs6, hc⟩
            have hB6 := hc.below hB5 hB5.size hlo
            have hal := addR_len' (fill P ((g : Int) + 2) (i - 1)) (0, 2)
            clear hc hs5 hB5
            go_wp2_with fail
            refine (s_any _ _ _).mono ?_
            rintro e w13 ⟨rfl, hb⟩
            replace hs6 := hs6.keep hb
            replace hB6 := andthen hB6 hb
            clear hb
            go_wp2_with fail
            refine (addSet_any gs _ (((i : Int) - 1) * ((g : Int) + 2)) (((i : Int) - 1) * ((g : Int) + 2) + 2) _ hs6 (by omega)).mono ?_
            rw [HONE.out]
            rintro e w14 ⟨rfl, hs7, hc⟩
            have hB7 := hc.below hB6 hB6.size hlo
            clear hc hs6 hB6
            go_wp2_with fail
            refine (setAll_any gs _ _ hs7 (by simp)).mono ?_
            rintro e w15 ⟨v, rfl, hown, hb⟩
            obtain ⟨A2, c2, rfl, _⟩ : ∃ A cap, v = .slice A 1 cap ∧ Row w15 A [(0, ((i : Int) - 1) * ((g : Int) + 2) + 2)] := Own.row hown
            have hs8 := hs7.keep hb
            have hB8 := andthen hB7 hb
            clear hown hb hs7 hB7
            go_wp2_with fail
            refine (setLong_any gs _ _ hs8 (by simp)).mono ?_
            rw [show sumL [(0, ((i : Int) - 1) * ((g : Int) + 2) + 2)] = ((i : Int) - 1) * ((g : Int) + 2) + 2 by
              have e1 : sumL [(0, ((i : Int) - 1) * ((g : Int) + 2) + 2)] = long (0, ((i : Int) - 1) * ((g : Int) + 2) + 2) := by unfold sumL; simp
              rw [e1, (long_pos _ (by unfold Ok; simp only; omega)).1]; simp only; omega]
            rintro e w16 ⟨rfl, hb⟩
            have hs9 := hs8.keep hb
            have hB9 := andthen hB8 hb
            clear hb hs8 hB8
            go_wp2_with fail
            refine (deep_one gs _ _ hs9).mono ?_
            rintro e w17 ⟨rfl, hb⟩
            have HBF := hide (andthen hB9 hb)
            clear hb hs9 hB9
            go_wp2_with fail
            go_ret
            exact ⟨rfl, HBF.out⟩
theorem pieces_law (x z u : Int) (w : World) (hx0 : 0 ≤ x) (hx1 : x ≤ 255) (hz0 : 0 ≤ z) (hz1 : z ≤ 255) (hu0 : 0 ≤ u) (hu1 : u ≤ 255) :
    Calls Try.prog 4 #[.int .u8 x, .int .u8 z, .int .u8 u] w fun e w' => e = .returned (.bool true) ∧ Below w.heap.size w w' :=
  pieces_main x z u (x + 1).toNat (2 * z + 1).toNat (u % 20 + 1).toNat w hx0 hx1 hz0 hz1 hu0 hu1 (by omega) (by omega) (by omega)
end Go.Proofs.Ytkjkegjekfebpaa

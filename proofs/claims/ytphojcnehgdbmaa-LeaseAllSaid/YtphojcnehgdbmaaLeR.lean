/- The document's leases: Sites, Begin, Join. -/
import Derived.Test.YtphojcnehgdbmaaBC6
import Derived.Test.YtphojcnehgdbmaaLeB
namespace Go.Proofs.Ytphojcnehgdbmaa.S2
open Go.RowKit Spn Cl Le

set_option maxHeartbeats 400000 in
theorem R.sites_any (n : Int) (w : World) :
    Calls Try.prog 26 #[.int .i64 n] w fun e w' => e = .returned (.int .i64 (max 1 (min n 4))) ∧ w' = w := by
  go_enter Try.func26, Try.ntmps26
  go_wp2_with fail
  go_ret
  exact ⟨rfl, rfl⟩
theorem outK_yes (k s r : Nat) (h : r % k = s) : outK (begF k s) (r + 1) = outK (begF k s) r ++ [((r : Int), ((0 : Int), (52596000 : Int)))] := by
  rw [outK_succ, show begF k s r = whole from if_pos h]; rfl
theorem outK_no (k s r : Nat) (h : ¬ r % k = s) : outK (begF k s) (r + 1) = outK (begF k s) r := by
  rw [outK_succ, show begF k s r = [] from if_neg h]; exact List.append_nil _
theorem outK_beg (k s : Nat) : ∀ r, r ≤ 8 → (outK (begF k s) r).length ≤ 8 := fun r hr => Nat.le_trans (outK_len _ r hr) (beg_le k s)

set_option maxRecDepth 100000 in
set_option maxHeartbeats 4000000 in
theorem R.begin_any (site n : Int) (k s : Nat) (w : World) (hk : max 1 (min n 4) = (k : Int)) (hs : max 0 (min site ((k : Int) - 1)) = (s : Int)) :
    Calls Try.prog 9 #[.int .i64 site, .int .i64 n] w (GivesC w (outC (begF k s))) := by
  have hk0 : (1 : Int) ≤ (k : Int) := by omega
  have hk4 : (k : Int) ≤ 4 := by omega
  have hsub : IntKind.i64.wrap ((k : Int) - 1) = (k : Int) - 1 := IntWalk.i64_in _ (by omega)
  have HS := hide hs
  clear hs
  go_enter Try.func9, Try.ntmps9
  go_wp2_with fail
  refine (R.sites_any n w).mono ?_
  rintro e w1 ⟨rfl, rfl⟩
  rw [hk]
  have hm2 : max 0 (min site ((k : Int) - 1)) = (s : Int) := HS.out
  go_wp2_with fail
  (try rw [hm2])
  clear hsub hk hm2
  go_loopw [7, 8] (fun v i wr => ∃ q : Nat, q ≤ 8 ∧ i = .int .i64 q ∧ Hid (OwnC wr w1.heap.size v (outK (begF k s) q)) ∧ Hid (Below w1.heap.size w1 wr)) (fun _ i _ => 8 - (intOf i).toNat)
  case atStart => exact ⟨0, by omega, rfl, hide (ownC_nil _ _), hide (start _)⟩
  case round =>
    obtain ⟨q, hq, rfl, HO, HB⟩ := hrel
    by_cases hlt : q < 8
    · have hj0 : (0 : Int) ≤ (q : Int) := by omega
      have hj1 : (q : Int) < 8 := by omega
      have hmod : ((q : Int)).tmod (k : Int) = ((q % k : Nat) : Int) := by rw [Int.tmod_eq_emod_of_nonneg (by omega)]; omega
      have hk00 : ¬ (k : Int) = 0 := by omega
      have hkm : ¬ (k : Int) = -1 := by omega
      by_cases hr : q % k = s
      · have hq1 : (((q % k : Nat) : Int) == (s : Int)) = true := by rw [beq_iff_eq]; omega
        have hq2 : ((q % k : Nat) : Int) = (s : Int) := by omega
        have HE := hide (outK_yes k s q hr)
        have hln : (outK (begF k s) q).length ≤ 1000000 := by have := outK_beg k s q hq; omega
        have hown := HO.out
        have hbs := HB.out.size
        generalize outK (begF k s) q = S at *
        go_wp2_with (at_builtin; refine wp_oneC (l := S) (p := ((q : Int), ((0 : Int), (52596000 : Int)))) rfl _ _ rfl rfl rfl rfl hown hbs hln ?_; intro v3 w3 hown3 hb3)
        have HO3 := hide hown3
        have HB3 := hide (HB.out.trans hb3)
        clear hown hown3 hb3 hbs hln hq1 hq2
        go_wp2_with fail
        go_roundw
        case rel => exact ⟨q + 1, by omega, by go_num, by rw [HE.out]; exact hide HO3.out, hide HB3.out⟩
        case measure => simp [intOf]; omega
      · have hq1 : (((q % k : Nat) : Int) == (s : Int)) = false := by rw [beq_eq_false_iff_ne]; omega
        have hq2 : ¬ ((q % k : Nat) : Int) = (s : Int) := by omega
        have HE := hide (outK_no k s q hr)
        go_wp2_with fail
        go_roundw
        case rel => exact ⟨q + 1, by omega, by go_num, by rw [HE.out]; exact hide HO.out, hide HB.out⟩
        case measure => simp [intOf]; omega
    · obtain rfl : q = 8 := by omega
      rw [outK_8] at HO
      go_wp2_with fail
      go_ret
      exact ⟨_, rfl, HO.out, HB.out⟩
set_option maxRecDepth 100000 in
set_option maxHeartbeats 2000000 in
theorem R.join_any (A : Option Addr) (n c : Nat) (a : List C) (B : Option Addr) (m d : Nat) (b : List C) (w : World) (h : RowC w A a) (hA : A = none → c = 0) (k : RowC w B b) (hB : B = none → d = 0) (he : n = a.length) (hf : m = b.length) (ha : a.length ≤ 40000) (hb : b.length ≤ 40000) :
    Calls Try.prog 11 #[.slice A n c, .slice B m d] w (GivesC w (neatC (a ++ b))) := by
  subst he hf
  have HR := hide h
  have HS := hide k
  have hown := ownC_nil w w.heap.size
  clear h k
  go_enter Try.func11, Try.ntmps11
  have l1 : ([] : List C).length ≤ 1000000 := by simp
  have l2 : a.length ≤ 1000000 := by omega
  have l3 : (([] : List C) ++ a).length ≤ 1000000 := by rw [List.nil_append]; omega
  have l4 : b.length ≤ 1000000 := by omega
  go_wp2_with (at_builtin; first
    | (refine wp_rowC (l := []) (k := a) rfl _ _ rfl rfl rfl rfl hA HR.out hown (Nat.le_refl _) l1 l2 ?_; intro v1 w1 hown1 hb1)
    | (refine wp_rowC (l := [] ++ a) (k := b) rfl _ _ rfl rfl rfl rfl hB (HS.out.keep hb1) hown1 hb1.size l3 l4 ?_; intro v2 w2 hown2 hb2; obtain ⟨A2, c2, rfl, hr2⟩ := hown2.row))
  have HB2 := hide (hb1.trans hb2)
  rw [List.nil_append] at hr2
  have HR2 := hide hr2
  clear hown hown1 hown2 hb1 hb2 hr2 l1 l2 l3 l4
  go_wp2_with fail
  refine (R.Neat_any A2 _ c2 (a ++ b) w2 HR2.out (by simp) (by rw [List.length_append]; omega)).mono ?_
  rintro e w3 ⟨v3, rfl, ho3, hb3⟩
  have HO3 := hide (ho3.low HB2.out.size)
  have HB3 := hide (HB2.out.trans (hb3.mono HB2.out.size))
  clear ho3 hb3
  go_wp2_with fail
  go_ret
  exact ⟨_, rfl, HO3.out, HB3.out⟩
end Go.Proofs.Ytphojcnehgdbmaa.S2

/- ExpandExcept walked. Written by recipes/ex10.py. -/
import Derived.Test.YtdmplojfidkipaaExK
import Derived.Test.YtdmplojfidkipaaExA
import Derived.Test.YtdmplojfidkipaaExMathC
namespace Go.Proofs.Ytdmplojfidkipaa
open Go.RowKit Rul Go.Sort Spn

/-- two rows of their own lie apart. -/
def Two (v u : Value) : Prop := u.ownBlock = none ∨ v.ownBlock = none ∨ v.ownBlock ≠ u.ownBlock
theorem two_flip {v u : Value} (h : Two v u) : Two u v := by
  rcases h with h | h | h
  · exact Or.inr (Or.inl h)
  · exact Or.inl h
  · exact Or.inr (Or.inr fun g => h g.symm)
/-- one row grows, the other one stays. -/
theorem two_next {v v' u : Value} {w w' : World} {B : Nat} {l : List Int} (h : GoesI v w v' w') (ho : OwnI w B u l) (ht : Two v u) : OwnI w' B u l ∧ Two v' u := by
  refine ⟨World.ownsRow.kept (row := v.ownBlock) ho h.grown ?_, ?_⟩
  · rcases ht with g | g | g
    · exact Or.inl g
    · cases hu : u.ownBlock
      · exact Or.inl rfl
      · exact Or.inr (by rw [g]; simp)
    · exact Or.inr fun e => g e.symm
  · cases hu : u.ownBlock with
    | none => exact Or.inl hu
    | some g =>
      have hlt := (ho.lt g hu).2
      rcases h.own with e | ⟨k, e, hk⟩
      · rcases ht with t | t | t
        · rw [hu] at t; cases t
        · exact Or.inr (Or.inl (e.trans t))
        · exact Or.inr (Or.inr (by rw [e]; exact t))
      · refine Or.inr (Or.inr ?_)
        rw [e, hu]; intro c; injection c with c; omega
set_option maxRecDepth 100000 in
set_option maxHeartbeats 2000000 in
theorem exc_walk (x n mk s : Int) (kN : Nat) (p : Nat → Bool) (w : World) (_x0 : 0 ≤ x) (_x1 : x ≤ 4294967295) (_n0 : 0 ≤ n) (_n1 : n ≤ 255) (_m0 : 0 ≤ mk) (_m1 : mk ≤ 65535) (hs : x % 26298000 = s) (hk : n % 12 + 1 = (kN : Int)) (HP : Hid (∀ i : Nat, (bits BinOp.and IntKind.u16 (mk / 2 ^ i) 1 == 1) = p i)) :
    Calls Try.prog 8 #[.int .u32 x, .int .u8 n, .int .u16 mk] w (Ans w (.bool true)) := by
  have t1 : x.tmod 26298000 = x % 26298000 := Int.tmod_eq_emod_of_nonneg (by omega)
  have t2 : n.tmod 12 = n % 12 := Int.tmod_eq_emod_of_nonneg (by omega)
  have HS := hide (exc_starts p s kN (by omega) (by omega) (by omega) (by omega))
  go_enter Try.func8, Try.ntmps8
  go_wp2_with fail
  refine (known_any _).mono ?_
  rintro e u1 ⟨rfl, hb⟩
  have HBX := hide hb
  clear hb
  go_wp2_with fail
  generalize u1 = W at *
  go_loopw [9, 10, 11] (fun v1 v2 i wr => ∃ j : Nat, j ≤ kN ∧ i = .int .i64 j ∧ OwnI wr W.heap.size v1 (exL p s j) ∧ OwnI wr W.heap.size v2 (exL (fun i => !p i) s j) ∧ Two v1 v2 ∧ Below W.heap.size W wr) (fun _ _ i _ => kN - (intOf i).toNat)
  case atStart => exact ⟨0, Nat.zero_le _, rfl, ownI_nil _ _, ownI_nil _ _, Or.inl rfl, start _⟩
  case round =>
    obtain ⟨j, hj, rfl, hown1, hown2, htwo, hbw⟩ := hrel
    have HE := hide hown1
    have HO := hide hown2
    have HW := hide htwo
    have HBR := hide hbw
    clear hown1 hown2 htwo hbw
    by_cases hlt : j < kN
    · cases hq : p j
      · have hbit : (bits BinOp.and IntKind.u16 (mk / 2 ^ j) 1 == 1) = false := by rw [HP.out j]; exact hq
        have HN := hide (exL_no p s j hq)
        have HM := hide (exL_yes (fun i => !p i) s j (by simp only [hq]; rfl))
        clear hq
        have hz := HBR.out.size
        have hown := HO.out
        have hln : (exL (fun i => !p i) s j).length ≤ 1000000 := Nat.le_trans (exL_len _ s j) (by omega)
        go_wp2_with (at_builtin; refine wp_oneJ (l := exL (fun i => !p i) s j) (p := s + (j : Int) * 1440) rfl _ _ rfl rfl rfl rfl hown hz hln ?_; intro v3 w3 hown3 hgo3)
        have HV := hide hown3
        have HT := hide (two_next hgo3 HE.out (two_flip HW.out))
        have HB3 := hide (hgo3.to hown HBR.out hz)
        clear hown hown3 hgo3 hz hln
        go_wp2_with fail
        go_roundw
        case rel => exact ⟨j + 1, by omega, by go_num, by rw [HN.out]; exact HT.out.1, by rw [HM.out]; exact HV.out, two_flip HT.out.2, HB3.out⟩
        case measure => simp [intOf]; omega
      · have hbit : (bits BinOp.and IntKind.u16 (mk / 2 ^ j) 1 == 1) = true := by rw [HP.out j]; exact hq
        have HN := hide (exL_yes p s j hq)
        have HM := hide (exL_no (fun i => !p i) s j (by simp only [hq]; rfl))
        clear hq
        have hz := HBR.out.size
        have hown := HE.out
        have hln : (exL p s j).length ≤ 1000000 := Nat.le_trans (exL_len _ s j) (by omega)
        go_wp2_with (at_builtin; refine wp_oneJ (l := exL p s j) (p := s + (j : Int) * 1440) rfl _ _ rfl rfl rfl rfl hown hz hln ?_; intro v3 w3 hown3 hgo3)
        have HV := hide hown3
        have HT := hide (two_next hgo3 HO.out HW.out)
        have HB3 := hide (hgo3.to hown HBR.out hz)
        clear hown hown3 hgo3 hz hln
        go_wp2_with fail
        go_roundw
        case rel => exact ⟨j + 1, by omega, by go_num, by rw [HN.out]; exact HV.out, by rw [HM.out]; exact HT.out.1, HT.out.2, HB3.out⟩
        case measure => simp [intOf]; omega
    · obtain rfl : j = kN := by omega
      obtain ⟨EL, hEL⟩ : ∃ l, exL p s j = l := ⟨_, rfl⟩
      obtain ⟨L, hL⟩ : ∃ l, exL (fun i => !p i) s j = l := ⟨_, rfl⟩
      have hle : EL.length ≤ 40 := by rw [← hEL]; exact Nat.le_trans (exL_len _ s j) (by omega)
      have hll : L.length ≤ 40 := by rw [← hL]; exact Nat.le_trans (exL_len _ s j) (by omega)
      rw [hEL] at HE HS
      rw [hL] at HO HS
      clear hEL hL
      obtain ⟨A, c, rfl, hrow⟩ := HE.out.row
      have HR := hide hrow
      clear hrow
      by_cases hz : L.length = 0
      · have hS := HS.out.1 (List.eq_nil_of_length_eq_zero hz)
        obtain ⟨A2, c2, rfl, _⟩ := HO.out.row
        have gz : ((L.length : Int) == 0) = true := by rw [beq_iff_eq]; omega
        have gz2 : (L.length == 0) = true := by rw [beq_iff_eq]; exact hz
        have HSE := hide hS
        clear hS hz
        go_wp2_with fail
        refine (daily_any j _).mono ?_
        rintro e u2 ⟨rfl, hb⟩
        replace HR := hide (HR.out.keep hb)
        replace HBR := hide (andthen HBR.out hb)
        clear hb
        go_wp2_with fail
        refine (starts_code 1 1 j (-1) none none none 0 0 0 0 0 0 [] [] [] s A _ c EL _ (lies_once _) HR.out rfl (by omega)).mono ?_
        rintro e u3 ⟨v1, rfl, hown, hb⟩
        rw [HSE.out] at hown ⊢
        obtain ⟨A3, c3, rfl, _⟩ := hown.row
        replace HBR := hide (andthen HBR.out hb)
        clear hb hown
        go_wp2_with fail
        go_ret
        exact ⟨rfl, andthen HBX.out HBR.out⟩
      · have hS := HS.out.2 fun h0 => hz (by rw [h0]; rfl)
        obtain ⟨A2, c2, rfl, hrow2⟩ := HO.out.row
        have HR2 := hide hrow2
        have gz : ((L.length : Int) == 0) = false := by rw [beq_eq_false_iff_ne]; omega
        have gz2 : (L.length == 0) = false := by rw [beq_eq_false_iff_ne]; exact hz
        have HSE := hide hS
        clear hS hz hrow2
        go_wp2_with fail
        refine (daily_any j _).mono ?_
        rintro e u2 ⟨rfl, hb⟩
        replace HR := hide (HR.out.keep hb)
        replace HR2 := hide (HR2.out.keep hb)
        replace HBR := hide (andthen HBR.out hb)
        clear hb
        go_wp2_with fail
        refine (starts_code 1 1 j (-1) none none none 0 0 0 0 0 0 [] [] [] s A _ c EL _ (lies_once _) HR.out rfl (by omega)).mono ?_
        rintro e u3 ⟨v1, rfl, hown, hb⟩
        rw [HSE.out] at hown ⊢
        obtain ⟨A3, c3, rfl, hrow3⟩ := hown.row
        have HR3 := hide hrow3
        replace HR2 := hide (HR2.out.keep hb)
        replace HBR := hide (andthen HBR.out hb)
        clear hb hown hrow3
        go_wp2_with fail
        refine (alike_any A3 A2 _ _ c3 c2 L _ HR3.out HR2.out rfl rfl (by omega)).mono ?_
        rintro e u4 ⟨rfl, hb⟩
        replace HBR := hide (andthen HBR.out hb)
        clear hb
        go_wp2_with fail
        go_ret
        exact ⟨rfl, andthen HBX.out HBR.out⟩
theorem exc6_any (x n mk : Int) (w : World) (x0 : 0 ≤ x) (x1 : x ≤ 4294967295) (n0 : 0 ≤ n) (n1 : n ≤ 255) (m0 : 0 ≤ mk) (m1 : mk ≤ 65535) :
    Calls Try.prog 8 #[.int .u32 x, .int .u8 n, .int .u16 mk] w (Ans w (.bool true)) := by
  obtain ⟨kN, hk⟩ : ∃ kN : Nat, n % 12 + 1 = (kN : Int) := ⟨(n % 12 + 1).toNat, by omega⟩
  exact exc_walk x n mk _ kN (fun i : Nat => bits BinOp.and IntKind.u16 (mk / 2 ^ i) 1 == 1) w x0 x1 n0 n1 m0 m1 rfl hk (hide fun i => rfl)

end Go.Proofs.Ytdmplojfidkipaa

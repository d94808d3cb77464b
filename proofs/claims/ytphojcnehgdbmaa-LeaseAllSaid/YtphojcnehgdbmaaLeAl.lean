/- LeaseAll. Written by recipes/le4.py. -/
import Derived.Test.YtphojcnehgdbmaaLeK
namespace Go.Proofs.Ytphojcnehgdbmaa.S2
open Go.RowKit Spn Cl Le

set_option maxRecDepth 100000 in
set_option maxHeartbeats 4000000 in
theorem all13_any (x : Int) (w : World) (x0 : 0 ≤ x) (_x1 : x ≤ 255) :
    Calls Try.prog 4 #[.int .u8 x] w fun e w' => e = .returned (.bool true) ∧ Below w.heap.size w w' := by
  have t1 : x.tmod 4 = x % 4 := Int.tmod_eq_emod_of_nonneg (by omega)
  have t2 : IntKind.u8.wrap (x % 4) = x % 4 := by unfold IntKind.wrap; simp [IntKind.bits, IntKind.signed]; omega
  have t3 : IntKind.i64.wrap (x % 4) = x % 4 := IntWalk.i64_in _ (by omega)
  obtain ⟨k, hk⟩ : ∃ k : Nat, x % 4 + 1 = (k : Int) := ⟨(x % 4 + 1).toNat, by omega⟩
  have hk0 : (1 : Int) ≤ (k : Int) := by omega
  have hk4 : (k : Int) ≤ 4 := by omega
  have t4 : IntKind.i64.wrap (x % 4 + 1) = (k : Int) := by rw [hk]; exact IntWalk.i64_in _ (by omega)
  go_enter Try.func4, Try.ntmps4
  go_wp2_with fail
  refine (known_any w).mono ?_
  rintro e w1 ⟨rfl, hb1⟩
  have HB1 := hide hb1
  clear hb1
  go_wp2_with fail
  clear t1 t2 t3 t4 hk
  go_loopw [4, 5] (fun v i wr => ∃ q : Nat, q ≤ k ∧ i = .int .i64 q ∧ Hid (OwnC wr w.heap.size v (outC (ltF k q))) ∧ Hid (Below w.heap.size w wr)) (fun _ i _ => k - (intOf i).toNat)
  case atStart => exact ⟨0, by omega, rfl, hide (by rw [lt_zero]; exact ownC_nil _ _), HB1⟩
  case round =>
    obtain ⟨q, hq, rfl, HO, HB⟩ := hrel
    clear HB1
    obtain ⟨A0, c0, rfl, _⟩ := HO.out.row
    have HLT := hide (lt_le k q)
    have HBG := hide (beg_le k q)
    by_cases hlt : q < k
    · have hj0 : (0 : Int) ≤ (q : Int) := by omega
      have hj1 : (q : Int) < (k : Int) := by omega
      have e1 : min (max (k : Int) 1) 4 = (k : Int) := by omega
      have e2 : min (max (q : Int) 0) ((k : Int) - 1) = (q : Int) := by omega
      have E1 := hide e1
      have E2 := hide e2
      have HSO := hide (beg_some k q hlt (by omega))
      have HMT := hide (lt_meet k q)
      have HNX := hide (lt_next k q)
      clear e1 e2
      go_wp2_with fail
      refine (newL_any (q : Int) (k : Int) k q wr E1.out E2.out).mono ?_
      rintro e W1 ⟨gx, bx, rfl, hg, hlo, hl, hb⟩
      have LOx : Hid (∀ r, r < 8 → w.heap.size ≤ bx r) := hide fun r hr => Nat.le_trans HB.out.size (hlo r hr)
      replace HO := hide (OwnC.keep HO.out hb)
      replace HB := hide (HB.out.trans (hb.mono HB.out.size))
      have Hx := hide hl
      clear hl hlo hg hb
      go_wp2_with fail
      refine (ownL_any gx bx (begF k q) W1 Hx.out (by have := HBG.out; omega)).mono ?_
      rintro e W2 ⟨v2, rfl, ho, hb⟩
      replace ho := ho.low HB.out.size
      replace Hx := hide (Hx.out.keep hb)
      replace HO := hide (OwnC.keep HO.out hb)
      replace HB := hide (HB.out.trans (hb.mono HB.out.size))
      obtain ⟨A2, c2, rfl, _⟩ := ho.row
      have R2 := hide ho
      clear ho hb
      have h0 : (((outC (begF k q)).length : Int) == 0) = false := by rw [beq_eq_false_iff_ne]; have := HSO.out; omega
      have h1 : ¬ ((outC (begF k q)).length : Int) = 0 := by have := HSO.out; omega
      go_wp2_with fail
      refine (R.Meet_any A0 A2 _ _ c0 c2 (outC (ltF k q)) (outC (begF k q)) W2 HO.out.rowAt.2.1 R2.out.rowAt.2.1 rfl rfl (by have := HLT.out; omega) (by have := HBG.out; omega)).mono ?_
      rintro e W3 ⟨v3, rfl, ho, hb⟩
      replace ho := ho.low HB.out.size
      replace Hx := hide (Hx.out.keep hb)
      replace HO := hide (OwnC.keep HO.out hb)
      replace R2 := hide (OwnC.keep R2.out hb)
      replace HB := hide (HB.out.trans (hb.mono HB.out.size))
      rw [HMT.out] at ho
      obtain ⟨A3, c3, rfl, _⟩ := ho.row
      have R3 := hide ho
      clear ho hb
      go_wp2_with fail
      refine (R.join_any A0 _ c0 (outC (ltF k q)) A2 _ c2 (outC (begF k q)) W3 HO.out.rowAt.2.1 HO.out.rowAt.2.2 R2.out.rowAt.2.1 R2.out.rowAt.2.2 rfl rfl (by have := HLT.out; omega) (by have := HBG.out; omega)).mono ?_
      rintro e W4 ⟨v4, rfl, ho, hb⟩
      replace ho := ho.low HB.out.size
      replace Hx := hide (Hx.out.keep hb)
      replace HO := hide (OwnC.keep HO.out hb)
      replace R2 := hide (OwnC.keep R2.out hb)
      replace R3 := hide (OwnC.keep R3.out hb)
      replace HB := hide (HB.out.trans (hb.mono HB.out.size))
      rw [HNX.out] at ho
      obtain ⟨A4, c4, rfl, _⟩ := ho.row
      have R4 := hide ho
      clear ho hb
      go_wp2_with fail
      go_roundw
      case rel => exact ⟨q + 1, by omega, by go_num, hide R4.out, hide HB.out⟩
      case measure => simp [intOf]; omega
    · obtain rfl : q = k := by omega
      have HAL := hide (lt_all q (by omega))
      have HLO : Hid ((outC (ltF q q)).length = 8) := hide (by rw [HAL.out]; exact all_len)
      have HLG : Hid (longC (outC (ltF q q)) = 420768000) := hide (by rw [HAL.out]; exact all_long)
      generalize outC (ltF q q) = D at *
      have hl := HLO.out
      rw [hl]
      go_wp2_with fail
      refine (R.cLong_any A0 8 c0 D wr HO.out.rowAt.2.1 hl.symm (by omega)).mono ?_
      rintro e w9 ⟨rfl, hb9⟩
      rw [HLG.out]
      go_wp2_with fail
      go_ret
      exact ⟨rfl, HB.out.trans (hb9.mono HB.out.size)⟩
end Go.Proofs.Ytphojcnehgdbmaa.S2

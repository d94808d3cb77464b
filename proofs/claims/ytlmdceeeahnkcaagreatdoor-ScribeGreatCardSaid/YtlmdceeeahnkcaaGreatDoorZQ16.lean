/- ScGr; ScGt of the recipes, what is needed of them. -/
import Derived.Test.YtlmdceeeahnkcaaGreatDoorZQ13
import Derived.Test.YtlmdceeeahnkcaaGreatDoorZScMathE
namespace Go.Proofs.YtlmdceeeahnkcaaGreatDoor
open Go.RowKit Rul Rt Go.Sort Sc De Cl

/-- the deed that is made, its claims in a row of its own. -/
structure GrS (B X : Nat) (w : World) (l : List C) : Prop where
  cells : ∃ A c, w.rangeAt X 0 (dC (dGr l) ⟨mZ, A, c, mZ⟩) ∧ S2.OwnC w (X + 1) (.slice A l.length c) l
  fz : w.frozen? ⟨X, 16, none⟩ = false
  lt : X < w.heap.size
  le : B ≤ X
theorem GrS.keep {B X : Nat} {w w1 : World} {l : List C} (h : GrS B X w l) (hb : Go.RowKit.Below w.heap.size w w1) : GrS B X w1 l := by
  obtain ⟨A, c, h1, h2⟩ := h.cells
  exact ⟨⟨A, c, range_keep h1 hb, S2.OwnC.keep h2 hb⟩, (hb.frozen (p := ⟨X, 16, none⟩) h.lt).trans h.fz, Nat.lt_of_lt_of_le h.lt hb.size, h.le⟩
theorem GrS.step {B X : Nat} {w : World} {l : List C} {p : C} {A A3 : Option Addr} {c c3 m3 : Nat} {w3 : World} (hr : w.rangeAt X 0 (dC (dGr l) ⟨mZ, A, c, mZ⟩)) (hf : w.frozen? ⟨X, 16, none⟩ = false) (hl : X < w.heap.size) (hB : B ≤ X)
    (ho : S2.OwnC w3 (X + 1) (.slice A3 m3 c3) (l ++ [p])) (hm : m3 = (l ++ [p]).length) (hb : Go.RowKit.Below (X + 1) w w3) : GrS B X (w3.setCell ⟨X, 16, none⟩ (.slice A3 m3 c3)) (l ++ [p]) := by
  subst hm
  have h3 : w3.rangeAt X 0 (dC (dGr l) ⟨mZ, A, c, mZ⟩) := fun j v hv => (hb.cell (p := ⟨X, _, none⟩) (Nat.lt_succ_self X)).trans (hr j v hv)
  refine ⟨⟨A3, c3, ?_, own_set ho X 16 _ (Nat.lt_succ_self X)⟩, ?_, ?_, hB⟩
  · exact range_set h3 16 16 (.slice A3 (l ++ [p]).length c3) (by rw [dC_len]; decide) rfl
  · rw [World.frozen?_setCell]; exact (hb.frozen (p := ⟨X, 16, none⟩) (Nat.lt_succ_self X)).trans hf
  · simpa [World.setCell] using Nat.lt_of_lt_of_le hl hb.size
theorem grS_new (w : World) : GrS w.heap.size w.heap.size (w.alloc (.cells (dC (dGr []) mD).toArray 34)) [] :=
  ⟨⟨none, 0, range_new w (dC (dGr []) mD) 34, S2.ownC_nil _ _⟩, World.frozen?_alloc_at _ _ _ _ rfl, by simp, Nat.le_refl _⟩
set_option maxRecDepth 100000 in
set_option maxHeartbeats 16000000 in
theorem gr0_any (n : Nat) (w : World) (he : Env w) (hn : n < 256) :
    Calls Tryz.prog 7 #[.int .u8 n, .bool false] w (Ans w (.bool true)) := by
  have HK := hide (known_any w he)
  have HE := hide he
  obtain ⟨K, hK⟩ : ∃ K, 160 - n % 4 = K := ⟨_, rfl⟩
  have hr : (n : Int).tmod 4 = ((n % 4 : Nat) : Int) := by rw [Int.tmod_eq_emod_of_nonneg (by omega)]; rfl
  have hr2 : (n : Int) % 4 = ((n % 4 : Nat) : Int) := rfl
  have hw0 : IntKind.i64.wrap ((n % 4 : Nat) : Int) = ((n % 4 : Nat) : Int) := IntWalk.i64_in _ (by omega)
  have hw1 : IntKind.i64.wrap (160 - ((n % 4 : Nat) : Int)) = (K : Int) := by rw [IntWalk.i64_in _ (by omega)]; omega
  have hw2 : wrap64 ((n % 4 : Nat) : Int) = ((n % 4 : Nat) : Int) := IntWalk.wrap64_in _ (by omega)
  have HKK := hide (show 157 ≤ K ∧ K ≤ 160 by omega)
  clear he hn hK
  generalize n % 4 = r at *
  go_enter Tryz.func7, Tryz.ntmps7
  go_wp2_with fail
  refine HK.out.mono ?_
  rintro q w1 ⟨rfl, hb⟩
  have HB := hide (more hb (.cells (dC (dGr []) mD).toArray 34))
  have G1 := hide (grS_new w1)
  have HEB := hide ((HE.out.keep hb).b.on (more (start w1) (.cells (dC (dGr []) mD).toArray 34)))
  have HSW := hide hb.size
  clear HE hb
  go_wp2_with (first | refine store_new rfl _ _ _ rfl w1 _ (dC (dGr []) mD).toArray rfl rfl rfl (by kernel_rfl) (by kernel_rfl) (by kernel_rfl) ?_ | refine build_at rfl 34 _ rfl (dC (dGr []) mD).toArray (by kernel_rfl) ?_)
  generalize w1.alloc (.cells (dC (dGr []) mD).toArray 34) = W1 at *
  generalize hX : w1.heap.size = X at *
  clear hX
  go_loopw [6] (fun i wr => ∃ j : Nat, j ≤ K ∧ i = .int .i64 j ∧ GrS X X wr (gK 0 j) ∧ Below X W1 wr) (fun i _ => K - (intOf i).toNat)
  case atStart => exact ⟨0, Nat.zero_le _, rfl, G1.out, Below.refl _ _⟩
  case round =>
    obtain ⟨j, hj, rfl, hg, hbw⟩ := hrel
    have HBW := hide hbw
    have HG := hide hg
    clear hbw hg
    by_cases hlt : j < K
    · have hj1 : (j : Int) < (K : Int) := by omega
      have hk2 := HKK.out.2
      have e1 : IntKind.i64.wrap (20 * (j : Int)) = 20 * (j : Int) := IntWalk.i64_in _ (by omega)
      have e3 : IntKind.i64.wrap (20 * (j : Int) + 19) = 20 * (j : Int) + 19 := IntWalk.i64_in _ (by omega)
      obtain ⟨A, c, hr0, ho⟩ := HG.out.cells
      have c16 := range_cell hr0 16 16 _ rfl rfl
      have HR := hide hr0
      have HO := hide ho
      have HF := hide HG.out.fz
      have HLT := hide HG.out.lt
      have HLE := hide HG.out.le
      have HNL := hide (show (gK 0 j).length ≤ 1000000 by rw [gK_len]; omega)
      have HS := hide (gK_succ 0 j)
      have HCL : Hid (clG 0 j = (7, (20 * (j : Int), 20 * (j : Int) + 19))) := hide (by unfold clG; simp)
      rw [HCL.out] at HS
      have HGL := hide (gK_len 0 j)
      generalize gK 0 j = L at *
      obtain ⟨m0, hm0⟩ : ∃ m0, L.length = m0 := ⟨_, rfl⟩
      have c16' : wr.cell? ⟨X, 16, none⟩ = some (.slice A m0 c) := by rw [← hm0]; exact c16
      have HM := hide hm0
      clear hr0 ho c16 hm0
      go_wp2_with (refine S2.wp_oneC (B := X + 1) (l := L) (p := (7, (20 * (j : Int), 20 * (j : Int) + 19))) rfl _ _ rfl rfl rfl rfl (HM.out ▸ HO.out) (Nat.succ_le_of_lt HLT.out) HNL.out ?_)
      intro v3 w3 ho3 hb3
      obtain ⟨A3, m3, c3, rfl, e3⟩ := own_slice ho3
      have O3 := hide ho3
      have c3c := (hb3.cell (p := ⟨X, 16, none⟩) (Nat.lt_succ_self X)).trans c16'
      have c3f := (hb3.frozen (p := ⟨X, 16, none⟩) (Nat.lt_succ_self X)).trans HF.out
      have HN := hide (GrS.step (B := X) HR.out HF.out HLT.out HLE.out ho3 e3 hb3)
      have HBB := hide ((HBW.out.trans (hb3.mono (Nat.le_succ X))).setCell (p := ⟨X, 16, none⟩) (Nat.le_refl X) (.slice A3 m3 c3))
      clear ho3 hb3 e3 c16'
      go_wp2_with fail
      go_roundw
      case rel => exact ⟨j + 1, by omega, by go_num, HS.out ▸ HN.out, HBB.out⟩
      case measure => simp [intOf]; omega
    · obtain rfl : j = K := by omega
      have HD := hide (dGr_is (gK_neat 0 j (by omega) (by have := HKK.out; omega)))
      have HBT := hide (HB.out.trans (HBW.out.mono HSW.out))
      have HET := hide (HEB.out.on HBW.out).env
      obtain ⟨A, c, hr0, ho⟩ := HG.out.cells
      have R1 := hide hr0
      have HDL : Hid (DL wr (dGr (gK 0 j)) ⟨mZ, A, c, mZ⟩) := hide ⟨evZ _, own_row ho, by show (gK 0 j).length ≤ 10000; rw [gK_len]; have := HKK.out; omega, evZ _⟩
      clear hr0 ho hlt HBW HEB HG HB HSW
      have HL1 := hide (fun w he h => line_any (dGr (gK 0 j)) ⟨mZ, A, c, mZ⟩ w he h)
      rw [lineV_yes HD.out] at HL1
      have HRY := hide (fun w he => Read_any (lineE (dGr (gK 0 j))) w he (by have := (line_len HD.out).2; omega))
      rw [read_line HD.out] at HRY
      have HI := hide (fun w h => rdIs_c (dGr (gK 0 j)) ⟨mZ, A, c, mZ⟩ true w h HD.out)
      have HSM := hide (fun w m h1 h2 => rsameD_c (dGr (gK 0 j)) (dGr (gK 0 j)) ⟨mZ, A, c, mZ⟩ m true w h1 h2 (sameD_self _))
      have hz8 : ((str (lineE (dGr (gK 0 j)))).size : Int) ≤ 8000 := by rw [str_size]; have := (line_len HD.out).2; omega
      clear HD HKK
      generalize lineE (dGr (gK 0 j)) = L at *
      generalize dGr (gK 0 j) = d at *
      go_wp2_with (refine load_deed rfl _ rfl _ _ rfl _ R1.out rfl ?_)
      refine (HL1.out _ HET.out HDL.out).mono ?_
      rintro q w5 ⟨rfl, hb⟩
      replace HBT := hide (andthen HBT.out hb)
      replace HET := hide (HET.out.keep hb)
      replace HDL := hide (HDL.out.keep hb)
      replace R1 := hide (range_keep R1.out hb)
      clear hb
      go_wp2_with fail
      refine (HRY.out _ HET.out).mono ?_
      rintro q w6 ⟨hb, p, rfl, hd⟩
      have R2 := hide (range_new w6 (dC d p) 34)
      have hb7 := more (start w6) (.cells (dC d p).toArray 34)
      have HP := hide (hd.keep hb7)
      replace hb := andthen hb hb7
      replace HBT := hide (andthen HBT.out hb)
      replace HDL := hide (HDL.out.keep hb)
      replace R1 := hide (range_keep R1.out hb)
      clear hb hb7 hd
      go_wp2_with (first | refine load_deed rfl _ rfl _ _ rfl _ R1.out rfl ?_ | refine store_new rfl _ _ _ rfl w6 _ (dC d p).toArray rfl rfl rfl (by kernel_rfl) (by kernel_rfl) (by kernel_rfl) ?_)
      refine (HI.out _ HDL.out).mono ?_
      rintro q w8 ⟨rfl, hb⟩
      replace HBT := hide (andthen HBT.out hb)
      replace HDL := hide (HDL.out.keep hb)
      replace HP := hide (HP.out.keep hb)
      replace R1 := hide (range_keep R1.out hb)
      replace R2 := hide (range_keep R2.out hb)
      clear hb
      go_wp2_with (first | refine load_deed rfl _ rfl _ _ rfl _ R1.out rfl ?_ | refine load_deed rfl _ rfl _ _ rfl _ R2.out rfl ?_)
      refine (HSM.out _ _ HDL.out HP.out).mono ?_
      rintro q w9 ⟨rfl, hb⟩
      replace HBT := hide (andthen HBT.out hb)
      clear hb
      go_wp2_with fail
      go_ret
      exact ⟨rfl, HBT.out⟩
set_option maxRecDepth 100000 in
set_option maxHeartbeats 16000000 in
theorem gr1_any (n : Nat) (w : World) (he : Env w) (hn : n < 256) :
    Calls Tryz.prog 7 #[.int .u8 n, .bool true] w (Ans w (.bool true)) := by
  have HK := hide (known_any w he)
  have HE := hide he
  obtain ⟨K, hK⟩ : ∃ K, 160 - n % 4 = K := ⟨_, rfl⟩
  have hr : (n : Int).tmod 4 = ((n % 4 : Nat) : Int) := by rw [Int.tmod_eq_emod_of_nonneg (by omega)]; rfl
  have hr2 : (n : Int) % 4 = ((n % 4 : Nat) : Int) := rfl
  have hw0 : IntKind.i64.wrap ((n % 4 : Nat) : Int) = ((n % 4 : Nat) : Int) := IntWalk.i64_in _ (by omega)
  have hw1 : IntKind.i64.wrap (160 - ((n % 4 : Nat) : Int)) = (K : Int) := by rw [IntWalk.i64_in _ (by omega)]; omega
  have hw2 : wrap64 ((n % 4 : Nat) : Int) = ((n % 4 : Nat) : Int) := IntWalk.wrap64_in _ (by omega)
  have HKK := hide (show 157 ≤ K ∧ K ≤ 160 by omega)
  clear he hn hK
  generalize n % 4 = r at *
  go_enter Tryz.func7, Tryz.ntmps7
  go_wp2_with fail
  refine HK.out.mono ?_
  rintro q w1 ⟨rfl, hb⟩
  have HB := hide (more hb (.cells (dC (dGr []) mD).toArray 34))
  have G1 := hide (grS_new w1)
  have HEB := hide ((HE.out.keep hb).b.on (more (start w1) (.cells (dC (dGr []) mD).toArray 34)))
  have HSW := hide hb.size
  clear HE hb
  go_wp2_with (first | refine store_new rfl _ _ _ rfl w1 _ (dC (dGr []) mD).toArray rfl rfl rfl (by kernel_rfl) (by kernel_rfl) (by kernel_rfl) ?_ | refine build_at rfl 34 _ rfl (dC (dGr []) mD).toArray (by kernel_rfl) ?_)
  generalize w1.alloc (.cells (dC (dGr []) mD).toArray 34) = W1 at *
  generalize hX : w1.heap.size = X at *
  clear hX
  go_loopw [6] (fun i wr => ∃ j : Nat, j ≤ K ∧ i = .int .i64 j ∧ GrS X X wr (gK 52592800 j) ∧ Below X W1 wr) (fun i _ => K - (intOf i).toNat)
  case atStart => exact ⟨0, Nat.zero_le _, rfl, G1.out, Below.refl _ _⟩
  case round =>
    obtain ⟨j, hj, rfl, hg, hbw⟩ := hrel
    have HBW := hide hbw
    have HG := hide hg
    clear hbw hg
    by_cases hlt : j < K
    · have hj1 : (j : Int) < (K : Int) := by omega
      have hk2 := HKK.out.2
      have e1 : IntKind.i64.wrap (20 * (j : Int)) = 20 * (j : Int) := IntWalk.i64_in _ (by omega)
      have e2 : IntKind.i64.wrap (52592800 + 20 * (j : Int)) = 52592800 + 20 * (j : Int) := IntWalk.i64_in _ (by omega)
      have e3 : IntKind.i64.wrap (52592800 + 20 * (j : Int) + 19) = 52592800 + 20 * (j : Int) + 19 := IntWalk.i64_in _ (by omega)
      obtain ⟨A, c, hr0, ho⟩ := HG.out.cells
      have c16 := range_cell hr0 16 16 _ rfl rfl
      have HR := hide hr0
      have HO := hide ho
      have HF := hide HG.out.fz
      have HLT := hide HG.out.lt
      have HLE := hide HG.out.le
      have HNL := hide (show (gK 52592800 j).length ≤ 1000000 by rw [gK_len]; omega)
      have HS := hide (gK_succ 52592800 j)
      have HCL : Hid (clG 52592800 j = (7, (52592800 + 20 * (j : Int), 52592800 + 20 * (j : Int) + 19))) := hide (by unfold clG; rfl)
      rw [HCL.out] at HS
      have HGL := hide (gK_len 52592800 j)
      generalize gK 52592800 j = L at *
      obtain ⟨m0, hm0⟩ : ∃ m0, L.length = m0 := ⟨_, rfl⟩
      have c16' : wr.cell? ⟨X, 16, none⟩ = some (.slice A m0 c) := by rw [← hm0]; exact c16
      have HM := hide hm0
      clear hr0 ho c16 hm0
      go_wp2_with (refine S2.wp_oneC (B := X + 1) (l := L) (p := (7, (52592800 + 20 * (j : Int), 52592800 + 20 * (j : Int) + 19))) rfl _ _ rfl rfl rfl rfl (HM.out ▸ HO.out) (Nat.succ_le_of_lt HLT.out) HNL.out ?_)
      intro v3 w3 ho3 hb3
      obtain ⟨A3, m3, c3, rfl, e3⟩ := own_slice ho3
      have O3 := hide ho3
      have c3c := (hb3.cell (p := ⟨X, 16, none⟩) (Nat.lt_succ_self X)).trans c16'
      have c3f := (hb3.frozen (p := ⟨X, 16, none⟩) (Nat.lt_succ_self X)).trans HF.out
      have HN := hide (GrS.step (B := X) HR.out HF.out HLT.out HLE.out ho3 e3 hb3)
      have HBB := hide ((HBW.out.trans (hb3.mono (Nat.le_succ X))).setCell (p := ⟨X, 16, none⟩) (Nat.le_refl X) (.slice A3 m3 c3))
      clear ho3 hb3 e3 c16'
      go_wp2_with fail
      go_roundw
      case rel => exact ⟨j + 1, by omega, by go_num, HS.out ▸ HN.out, HBB.out⟩
      case measure => simp [intOf]; omega
    · obtain rfl : j = K := by omega
      have HD := hide (dGr_is (gK_neat 52592800 j (by omega) (by have := HKK.out; omega)))
      have HBT := hide (HB.out.trans (HBW.out.mono HSW.out))
      have HET := hide (HEB.out.on HBW.out).env
      obtain ⟨A, c, hr0, ho⟩ := HG.out.cells
      have R1 := hide hr0
      have HDL : Hid (DL wr (dGr (gK 52592800 j)) ⟨mZ, A, c, mZ⟩) := hide ⟨evZ _, own_row ho, by show (gK 52592800 j).length ≤ 10000; rw [gK_len]; have := HKK.out; omega, evZ _⟩
      clear hr0 ho hlt HBW HEB HG HB HSW
      have HL1 := hide (fun w he h => line_any (dGr (gK 52592800 j)) ⟨mZ, A, c, mZ⟩ w he h)
      rw [lineV_yes HD.out] at HL1
      have HRY := hide (fun w he => Read_any (lineE (dGr (gK 52592800 j))) w he (by have := (line_len HD.out).2; omega))
      rw [read_line HD.out] at HRY
      have HI := hide (fun w h => rdIs_c (dGr (gK 52592800 j)) ⟨mZ, A, c, mZ⟩ true w h HD.out)
      have HSM := hide (fun w m h1 h2 => rsameD_c (dGr (gK 52592800 j)) (dGr (gK 52592800 j)) ⟨mZ, A, c, mZ⟩ m true w h1 h2 (sameD_self _))
      have hz8 : ((str (lineE (dGr (gK 52592800 j)))).size : Int) ≤ 8000 := by rw [str_size]; have := (line_len HD.out).2; omega
      clear HD HKK
      generalize lineE (dGr (gK 52592800 j)) = L at *
      generalize dGr (gK 52592800 j) = d at *
      go_wp2_with (refine load_deed rfl _ rfl _ _ rfl _ R1.out rfl ?_)
      refine (HL1.out _ HET.out HDL.out).mono ?_
      rintro q w5 ⟨rfl, hb⟩
      replace HBT := hide (andthen HBT.out hb)
      replace HET := hide (HET.out.keep hb)
      replace HDL := hide (HDL.out.keep hb)
      replace R1 := hide (range_keep R1.out hb)
      clear hb
      go_wp2_with fail
      refine (HRY.out _ HET.out).mono ?_
      rintro q w6 ⟨hb, p, rfl, hd⟩
      have R2 := hide (range_new w6 (dC d p) 34)
      have hb7 := more (start w6) (.cells (dC d p).toArray 34)
      have HP := hide (hd.keep hb7)
      replace hb := andthen hb hb7
      replace HBT := hide (andthen HBT.out hb)
      replace HDL := hide (HDL.out.keep hb)
      replace R1 := hide (range_keep R1.out hb)
      clear hb hb7 hd
      go_wp2_with (first | refine load_deed rfl _ rfl _ _ rfl _ R1.out rfl ?_ | refine store_new rfl _ _ _ rfl w6 _ (dC d p).toArray rfl rfl rfl (by kernel_rfl) (by kernel_rfl) (by kernel_rfl) ?_)
      refine (HI.out _ HDL.out).mono ?_
      rintro q w8 ⟨rfl, hb⟩
      replace HBT := hide (andthen HBT.out hb)
      replace HDL := hide (HDL.out.keep hb)
      replace HP := hide (HP.out.keep hb)
      replace R1 := hide (range_keep R1.out hb)
      replace R2 := hide (range_keep R2.out hb)
      clear hb
      go_wp2_with (first | refine load_deed rfl _ rfl _ _ rfl _ R1.out rfl ?_ | refine load_deed rfl _ rfl _ _ rfl _ R2.out rfl ?_)
      refine (HSM.out _ _ HDL.out HP.out).mono ?_
      rintro q w9 ⟨rfl, hb⟩
      replace HBT := hide (andthen HBT.out hb)
      clear hb
      go_wp2_with fail
      go_ret
      exact ⟨rfl, HBT.out⟩
end Go.Proofs.YtlmdceeeahnkcaaGreatDoor
namespace Go.Proofs.YtlmdceeeahnkcaaGreatDoor
open Go.RowKit Rul Rt Go.Sort Sc De Cl
theorem gr15_any (x : Int) (late : Bool) (w : World) (he : Env w) (h : 0 ≤ x ∧ x < 256) :
    Calls Tryz.prog 7 #[.int .u8 x, .bool late] w (Ans w (.bool true)) := by
  obtain ⟨n, rfl⟩ : ∃ n : Nat, x = (n : Int) := ⟨x.toNat, by omega⟩
  cases late
  · exact gr0_any n w he (by omega)
  · exact gr1_any n w he (by omega)

end Go.Proofs.YtlmdceeeahnkcaaGreatDoor

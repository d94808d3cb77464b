/- Package hostelrylaw13: c, few, known. Written by recipes/le3.py. -/
import Derived.Test.YtphojcnehgdbmaaLeG
import Derived.Test.YtphojcnehgdbmaaLeR
import Derived.Test.YtphojcnehgdbmaaLeRow
import Derived.Test.YtphojcnehgdbmaaBC4
namespace Go.Proofs.Ytphojcnehgdbmaa.S2
open Go.RowKit Spn Cl Le

theorem OwnC.rowAt {w : World} {B : Nat} {A : Option Addr} {n c : Nat} {l : List C} (h : OwnC w B (.slice A n c) l) : n = l.length ∧ RowC w A l ∧ (A = none → c = 0) := by
  obtain ⟨A', c', e, hr, h0⟩ := h.row0
  injection e with e1 e2 e3
  subst e1 e2 e3
  exact ⟨rfl, hr, h0⟩
set_option maxHeartbeats 400000 in
theorem c_any (r f t : Int) (w : World) :
    Calls Try.prog 22 #[.int .i64 r, .int .i64 f, .int .i64 t] w (GivesC w [(r, (f, t))]) := by
  have HO : Hid (OwnC (w.alloc (.cells #[.int .i64 r, .int .i64 f, .int .i64 t] 55)) w.heap.size (.slice (some ⟨w.heap.size, 0, none⟩) 1 1) [(r, (f, t))]) := hide ⟨rfl, Or.inr ⟨w.heap.size, 1, #[.int .i64 r, .int .i64 f, .int .i64 t], rfl, Nat.le_refl _, by rw [heap_alloc_new], Nat.le_refl _, by decide, rfl, rfl⟩⟩
  go_enter Try.func22, Try.ntmps22
  go_wp2_with fail
  go_ret
  exact ⟨_, rfl, HO.out, more (start w) _⟩
/-- so many steps, so many claims in each. -/
def fewB (ts : List Stp) : Bool := (ts.all fun s => decide (s.l.length ≤ 10)) && decide (ts.length ≤ 40)
theorem fewB_iff (ts : List Stp) : fewB ts = true ↔ (∀ s ∈ ts, s.l.length ≤ 10) ∧ ts.length ≤ 40 := by
  unfold fewB; rw [Bool.and_eq_true, List.all_eq_true, decide_eq_true_eq]; simp
set_option maxRecDepth 100000 in
set_option maxHeartbeats 2000000 in
theorem few_any (A : Option Addr) (n c : Nat) (ts : List Stp) (w : World) (h : RowT w A ts) (hs : Stps w ts) (he : n = ts.length) (hn : ts.length ≤ maxLen) :
    Calls Try.prog 7 #[.slice A n c] w fun e w' => e = .returned (.bool (fewB ts)) ∧ Below w.heap.size w w' := by
  subst he
  have HR := hide h
  have HS := hide hs
  have hM : ts.length ≤ 9223372036854775807 := by unfold maxLen at hn; omega
  clear h hs
  go_enter Try.func7, Try.ntmps7
  go_wp2_with fail
  go_loopw [3] (fun i wr => ∃ k : Nat, k ≤ ts.length ∧ i = .int .i64 k ∧ Hid (∀ s ∈ ts.take k, s.l.length ≤ 10) ∧ Hid (Below w.heap.size w wr)) (fun i _ => ts.length - (intOf i).toNat)
  case atStart => exact ⟨0, Nat.zero_le _, rfl, hide (by simp), hide (start _)⟩
  case round =>
    obtain ⟨k, hk, rfl, HT, HB⟩ := hrel
    by_cases hlt : k < ts.length
    · obtain ⟨b, off, rfl, hb, hcl⟩ := HR.out.keep HB.out (by intro h0; rw [h0] at hlt; exact absurd hlt (Nat.not_lt_zero _))
      have hi0 : (0 : Int) ≤ (k : Int) := by omega
      have hi1 : (k : Int) < (ts.length : Int) := by omega
      obtain ⟨m, hm⟩ : ∃ m, ts[k] = m := ⟨_, rfl⟩
      have d0 := (hcl k hlt).2
      rw [hm] at d0
      have hmm := HS.out ts[k] (List.getElem_mem hlt)
      rw [hm] at hmm
      have hml := hmm.2.1
      have HTK : Hid (ts.take (k + 1) = ts.take k ++ [m]) := hide (by rw [List.take_succ_eq_append_getElem hlt, hm])
      have HMM : Hid (m ∈ ts) := hide (by rw [← hm]; exact List.getElem_mem hlt)
      clear hcl hm hmm
      by_cases hc : m.l.length ≤ 10
      · have HN : Hid (∀ s ∈ ts.take (k + 1), s.l.length ≤ 10) := hide (by
          rw [HTK.out]; intro s hs
          rcases List.mem_append.1 hs with hs | hs
          · exact HT.out s hs
          · rw [List.mem_singleton.1 hs]; exact hc)
        have hc0 : ¬ (10 : Int) < (m.l.length : Int) := by omega
        have hc1 : decide ((10 : Int) < (m.l.length : Int)) = false := decide_eq_false hc0
        go_wp2_with fail
        go_roundw
        case rel => exact ⟨k + 1, by omega, by go_num, hide HN.out, hide HB.out⟩
        case measure => simp [intOf]; omega
      · have hc0 : (10 : Int) < (m.l.length : Int) := by omega
        have hc1 : decide ((10 : Int) < (m.l.length : Int)) = true := decide_eq_true hc0
        have HF : Hid (fewB ts = false) := hide (by
          rw [← Bool.not_eq_true, fewB_iff]
          exact fun h => hc (h.1 m HMM.out))
        go_wp2_with fail
        go_ret
        exact ⟨by rw [HF.out]; (try rfl), HB.out⟩
    · obtain rfl : k = ts.length := by omega
      rw [List.take_length] at HT
      have HF : Hid (fewB ts = decide (ts.length ≤ 40)) := hide (by
        rw [Bool.eq_iff_iff, fewB_iff, decide_eq_true_eq]
        exact ⟨fun h => h.2, fun h => ⟨HT.out, h⟩⟩)
      have hl : decide ((ts.length : Int) ≤ 40) = decide (ts.length ≤ 40) := decide_eq_decide.2 (by omega)
      generalize decide (ts.length ≤ 40) = q at *
      go_wp2_with fail
      go_ret
      exact ⟨by rw [HF.out]; (try rfl), HB.out⟩

/-- what known makes. -/
def fK0 : Rm := begF 2 1
def fK1 : Rm := cuts fK0 (neatC [(1, (5, 7))])
def fK2 : Rm := adds fK1 (neatC [(0, (1, 2))])
def fK3 : Rm := cuts fK2 (neatC [(0, (0, 9))])
theorem k_own0 : (outC fK0).length = 4 := by decide +kernel
theorem k_has3 : hasL fK0 (neatC [(3, (0, 9))]) = true := by decide +kernel
theorem k_has2 : hasL fK0 (neatC [(2, (0, 9))]) = false := by decide +kernel
theorem k_own1 : (outC fK1).length = 5 := by decide +kernel
theorem k_own2 : (outC fK2).length = 6 := by decide +kernel
theorem k_own3 : (outC fK3).length = 5 := by decide +kernel
theorem k_lack : lacks fK2 (neatC [(1, (4, 8))]) = [(1, (5, 7))] := by decide +kernel
theorem k_part : (parts fK2 (neatC [(1, (4, 8))])).length = 2 := by decide +kernel

set_option maxRecDepth 100000 in
set_option maxHeartbeats 4000000 in
theorem known_any (w : World) : Calls Try.prog 6 #[] w fun e w' => e = .returned (.bool true) ∧ Below w.heap.size w w' := by
  have HB := hide (start w)
  go_enter Try.func6, Try.ntmps6
  go_wp2_with fail
  refine (newL_any 1 2 2 1 w rfl rfl).mono ?_
  rintro e W1 ⟨gx, bx, rfl, hg, hlo, hl, hb⟩
  have LOx : Hid (∀ r, r < 8 → w.heap.size ≤ bx r) := hide fun r hr => Nat.le_trans HB.out.size (hlo r hr)
  replace HB := hide (HB.out.trans (hb.mono HB.out.size))
  have Hx := hide hl
  clear hl hlo hg hb
  have e0 : begF 2 1 = fK0 := rfl
  rw [e0] at Hx
  clear e0
  go_wp2_with fail
  refine (ownL_any gx bx fK0 W1 Hx.out (by rw [k_own0]; omega)).mono ?_
  rintro e W2 ⟨v2, rfl, ho, hb⟩
  replace ho := ho.low HB.out.size
  replace Hx := hide (Hx.out.keep hb)
  replace HB := hide (HB.out.trans (hb.mono HB.out.size))
  obtain ⟨A2, c2, rfl, _⟩ := ho.row
  have R2 := hide ho
  clear ho hb
  clear R2
  rw [k_own0]
  go_wp2_with fail
  refine (c_any 3 0 9 W2).mono ?_
  rintro e W3 ⟨v3, rfl, ho, hb⟩
  replace ho := ho.low HB.out.size
  replace Hx := hide (Hx.out.keep hb)
  replace HB := hide (HB.out.trans (hb.mono HB.out.size))
  obtain ⟨A3, c3, rfl, _⟩ := ho.row
  have R3 := hide ho
  clear ho hb
  go_wp2_with fail
  refine (hasL_any gx bx fK0 A3 _ c3 [(3, (0, 9))] W3 Hx.out R3.out.rowAt.2.1 rfl (by simp)).mono ?_
  rintro e W4 ⟨rfl, hb⟩
  rw [k_has3]
  replace Hx := hide (Hx.out.keep hb)
  replace R3 := hide (OwnC.keep R3.out hb)
  replace HB := hide (HB.out.trans (hb.mono HB.out.size))
  clear hb
  go_wp2_with fail
  refine (c_any 2 0 9 W4).mono ?_
  rintro e W5 ⟨v5, rfl, ho, hb⟩
  replace ho := ho.low HB.out.size
  replace Hx := hide (Hx.out.keep hb)
  replace R3 := hide (OwnC.keep R3.out hb)
  replace HB := hide (HB.out.trans (hb.mono HB.out.size))
  obtain ⟨A5, c5, rfl, _⟩ := ho.row
  have R5 := hide ho
  clear ho hb
  go_wp2_with fail
  refine (hasL_any gx bx fK0 A5 _ c5 [(2, (0, 9))] W5 Hx.out R5.out.rowAt.2.1 rfl (by simp)).mono ?_
  rintro e W6 ⟨rfl, hb⟩
  rw [k_has2]
  replace Hx := hide (Hx.out.keep hb)
  replace R3 := hide (OwnC.keep R3.out hb)
  replace R5 := hide (OwnC.keep R5.out hb)
  replace HB := hide (HB.out.trans (hb.mono HB.out.size))
  clear hb
  go_wp2_with fail
  refine (c_any 1 5 7 W6).mono ?_
  rintro e W7 ⟨v7, rfl, ho, hb⟩
  replace ho := ho.low HB.out.size
  replace Hx := hide (Hx.out.keep hb)
  replace R3 := hide (OwnC.keep R3.out hb)
  replace R5 := hide (OwnC.keep R5.out hb)
  replace HB := hide (HB.out.trans (hb.mono HB.out.size))
  obtain ⟨A7, c7, rfl, _⟩ := ho.row
  have R7 := hide ho
  clear ho hb
  go_wp2_with fail
  refine (cutL_any gx bx fK0 A7 _ c7 [(1, (5, 7))] W7 Hx.out R7.out.rowAt.2.1 rfl (by simp) (by rw [k_own0]; omega)).mono ?_
  rintro e W8 ⟨rfl, hl, hc⟩
  have hone := Hx.out.one
  replace R3 := hide (OwnC.otherL R3.out hone hc)
  replace R5 := hide (OwnC.otherL R5.out hone hc)
  replace R7 := hide (OwnC.otherL R7.out hone hc)
  replace HB := hide (hc.below HB.out HB.out.size LOx.out)
  replace Hx := hide hl
  clear hl hc hone
  have e1 : cuts fK0 (neatC [(1, (5, 7))]) = fK1 := rfl
  rw [e1] at Hx
  clear e1
  go_wp2_with fail
  refine (c_any 0 1 2 W8).mono ?_
  rintro e W9 ⟨v9, rfl, ho, hb⟩
  replace ho := ho.low HB.out.size
  replace Hx := hide (Hx.out.keep hb)
  replace R3 := hide (OwnC.keep R3.out hb)
  replace R5 := hide (OwnC.keep R5.out hb)
  replace R7 := hide (OwnC.keep R7.out hb)
  replace HB := hide (HB.out.trans (hb.mono HB.out.size))
  obtain ⟨A9, c9, rfl, _⟩ := ho.row
  have R9 := hide ho
  clear ho hb
  go_wp2_with fail
  refine (addL_any gx bx fK1 A9 _ c9 [(0, (1, 2))] W9 Hx.out R9.out.rowAt.2.1 rfl (by simp) (by rw [k_own1]; omega)).mono ?_
  rintro e W10 ⟨rfl, hl, hc⟩
  have hone := Hx.out.one
  replace R3 := hide (OwnC.otherL R3.out hone hc)
  replace R5 := hide (OwnC.otherL R5.out hone hc)
  replace R7 := hide (OwnC.otherL R7.out hone hc)
  replace R9 := hide (OwnC.otherL R9.out hone hc)
  replace HB := hide (hc.below HB.out HB.out.size LOx.out)
  replace Hx := hide hl
  clear hl hc hone
  have e2 : adds fK1 (neatC [(0, (1, 2))]) = fK2 := rfl
  rw [e2] at Hx
  clear e2
  go_wp2_with fail
  refine (copyL_any gx bx fK2 W10 Hx.out).mono ?_
  rintro e W11 ⟨gd, bd, rfl, hg, hlo, hl, hb⟩
  have APxd : Hid (∀ r q, r < 8 → q < 8 → bx r ≠ bd q) := hide fun r q hr hq e => by have h1 := (Hx.out.set r hr).lt; have h2 := hlo q hq; omega
  have APdx : Hid (∀ r q, r < 8 → q < 8 → bd r ≠ bx q) := hide fun r q hr hq e => by have h1 := (Hx.out.set q hq).lt; have h2 := hlo r hr; omega
  have LOd : Hid (∀ r, r < 8 → w.heap.size ≤ bd r) := hide fun r hr => Nat.le_trans HB.out.size (hlo r hr)
  replace Hx := hide (Hx.out.keep hb)
  replace R3 := hide (OwnC.keep R3.out hb)
  replace R5 := hide (OwnC.keep R5.out hb)
  replace R7 := hide (OwnC.keep R7.out hb)
  replace R9 := hide (OwnC.keep R9.out hb)
  replace HB := hide (HB.out.trans (hb.mono HB.out.size))
  have Hd := hide hl
  clear hl hlo hg hb
  go_wp2_with fail
  refine (c_any 0 0 9 W11).mono ?_
  rintro e W12 ⟨v12, rfl, ho, hb⟩
  replace ho := ho.low HB.out.size
  replace Hx := hide (Hx.out.keep hb)
  replace Hd := hide (Hd.out.keep hb)
  replace R3 := hide (OwnC.keep R3.out hb)
  replace R5 := hide (OwnC.keep R5.out hb)
  replace R7 := hide (OwnC.keep R7.out hb)
  replace R9 := hide (OwnC.keep R9.out hb)
  replace HB := hide (HB.out.trans (hb.mono HB.out.size))
  obtain ⟨A12, c12, rfl, _⟩ := ho.row
  have R12 := hide ho
  clear ho hb
  go_wp2_with fail
  refine (cutL_any gd bd fK2 A12 _ c12 [(0, (0, 9))] W12 Hd.out R12.out.rowAt.2.1 rfl (by simp) (by rw [k_own2]; omega)).mono ?_
  rintro e W13 ⟨rfl, hl, hc⟩
  have hone := Hd.out.one
  replace Hx := hide (Hx.out.otherL hone hc APxd.out)
  replace R3 := hide (OwnC.otherL R3.out hone hc)
  replace R5 := hide (OwnC.otherL R5.out hone hc)
  replace R7 := hide (OwnC.otherL R7.out hone hc)
  replace R9 := hide (OwnC.otherL R9.out hone hc)
  replace R12 := hide (OwnC.otherL R12.out hone hc)
  replace HB := hide (hc.below HB.out HB.out.size LOd.out)
  replace Hd := hide hl
  clear hl hc hone
  have e3 : cuts fK2 (neatC [(0, (0, 9))]) = fK3 := rfl
  rw [e3] at Hd
  clear e3
  go_wp2_with fail
  refine (ownL_any gx bx fK2 W13 Hx.out (by rw [k_own2]; omega)).mono ?_
  rintro e W14 ⟨v14, rfl, ho, hb⟩
  replace ho := ho.low HB.out.size
  replace Hx := hide (Hx.out.keep hb)
  replace Hd := hide (Hd.out.keep hb)
  replace R3 := hide (OwnC.keep R3.out hb)
  replace R5 := hide (OwnC.keep R5.out hb)
  replace R7 := hide (OwnC.keep R7.out hb)
  replace R9 := hide (OwnC.keep R9.out hb)
  replace R12 := hide (OwnC.keep R12.out hb)
  replace HB := hide (HB.out.trans (hb.mono HB.out.size))
  obtain ⟨A14, c14, rfl, _⟩ := ho.row
  have R14 := hide ho
  clear ho hb
  clear R14
  rw [k_own2]
  go_wp2_with fail
  refine (ownL_any gd bd fK3 W14 Hd.out (by rw [k_own3]; omega)).mono ?_
  rintro e W15 ⟨v15, rfl, ho, hb⟩
  replace ho := ho.low HB.out.size
  replace Hx := hide (Hx.out.keep hb)
  replace Hd := hide (Hd.out.keep hb)
  replace R3 := hide (OwnC.keep R3.out hb)
  replace R5 := hide (OwnC.keep R5.out hb)
  replace R7 := hide (OwnC.keep R7.out hb)
  replace R9 := hide (OwnC.keep R9.out hb)
  replace R12 := hide (OwnC.keep R12.out hb)
  replace HB := hide (HB.out.trans (hb.mono HB.out.size))
  obtain ⟨A15, c15, rfl, _⟩ := ho.row
  have R15 := hide ho
  clear ho hb
  clear R15
  rw [k_own3]
  go_wp2_with fail
  refine (c_any 1 4 8 W15).mono ?_
  rintro e W16 ⟨v16, rfl, ho, hb⟩
  replace ho := ho.low HB.out.size
  replace Hx := hide (Hx.out.keep hb)
  replace Hd := hide (Hd.out.keep hb)
  replace R3 := hide (OwnC.keep R3.out hb)
  replace R5 := hide (OwnC.keep R5.out hb)
  replace R7 := hide (OwnC.keep R7.out hb)
  replace R9 := hide (OwnC.keep R9.out hb)
  replace R12 := hide (OwnC.keep R12.out hb)
  replace HB := hide (HB.out.trans (hb.mono HB.out.size))
  obtain ⟨A16, c16, rfl, _⟩ := ho.row
  have R16 := hide ho
  clear ho hb
  go_wp2_with fail
  refine (lackL_any gx bx fK2 A16 _ c16 [(1, (4, 8))] W16 Hx.out R16.out.rowAt.2.1 rfl (by simp) (by rw [k_own2]; omega)).mono ?_
  rintro e W17 ⟨v17, rfl, ho, hb⟩
  replace ho := ho.low HB.out.size
  replace Hx := hide (Hx.out.keep hb)
  replace Hd := hide (Hd.out.keep hb)
  replace R3 := hide (OwnC.keep R3.out hb)
  replace R5 := hide (OwnC.keep R5.out hb)
  replace R7 := hide (OwnC.keep R7.out hb)
  replace R9 := hide (OwnC.keep R9.out hb)
  replace R12 := hide (OwnC.keep R12.out hb)
  replace R16 := hide (OwnC.keep R16.out hb)
  replace HB := hide (HB.out.trans (hb.mono HB.out.size))
  rw [k_lack] at ho
  obtain ⟨A17, c17, rfl, _⟩ := ho.row
  have R17 := hide ho
  clear ho hb
  go_wp2_with fail
  refine (c_any 1 5 7 W17).mono ?_
  rintro e W18 ⟨v18, rfl, ho, hb⟩
  replace ho := ho.low HB.out.size
  replace Hx := hide (Hx.out.keep hb)
  replace Hd := hide (Hd.out.keep hb)
  replace R3 := hide (OwnC.keep R3.out hb)
  replace R5 := hide (OwnC.keep R5.out hb)
  replace R7 := hide (OwnC.keep R7.out hb)
  replace R9 := hide (OwnC.keep R9.out hb)
  replace R12 := hide (OwnC.keep R12.out hb)
  replace R16 := hide (OwnC.keep R16.out hb)
  replace R17 := hide (OwnC.keep R17.out hb)
  replace HB := hide (HB.out.trans (hb.mono HB.out.size))
  obtain ⟨A18, c18, rfl, _⟩ := ho.row
  have R18 := hide ho
  clear ho hb
  go_wp2_with fail
  refine (R.equalC_any A17 A18 _ _ c17 c18 [(1, (5, 7))] [(1, (5, 7))] W18 R17.out.rowAt.2.1 R18.out.rowAt.2.1 rfl rfl (by simp) (by simp)).mono ?_
  rintro e W19 ⟨rfl, hb⟩
  rw [decide_eq_true (rfl : [((1 : Int), ((5 : Int), (7 : Int)))] = [(1, (5, 7))])]
  replace Hx := hide (Hx.out.keep hb)
  replace Hd := hide (Hd.out.keep hb)
  replace R3 := hide (OwnC.keep R3.out hb)
  replace R5 := hide (OwnC.keep R5.out hb)
  replace R7 := hide (OwnC.keep R7.out hb)
  replace R9 := hide (OwnC.keep R9.out hb)
  replace R12 := hide (OwnC.keep R12.out hb)
  replace R16 := hide (OwnC.keep R16.out hb)
  replace R17 := hide (OwnC.keep R17.out hb)
  replace R18 := hide (OwnC.keep R18.out hb)
  replace HB := hide (HB.out.trans (hb.mono HB.out.size))
  clear hb
  go_wp2_with fail
  refine (c_any 1 4 8 W19).mono ?_
  rintro e W20 ⟨v20, rfl, ho, hb⟩
  replace ho := ho.low HB.out.size
  replace Hx := hide (Hx.out.keep hb)
  replace Hd := hide (Hd.out.keep hb)
  replace R3 := hide (OwnC.keep R3.out hb)
  replace R5 := hide (OwnC.keep R5.out hb)
  replace R7 := hide (OwnC.keep R7.out hb)
  replace R9 := hide (OwnC.keep R9.out hb)
  replace R12 := hide (OwnC.keep R12.out hb)
  replace R16 := hide (OwnC.keep R16.out hb)
  replace R17 := hide (OwnC.keep R17.out hb)
  replace R18 := hide (OwnC.keep R18.out hb)
  replace HB := hide (HB.out.trans (hb.mono HB.out.size))
  obtain ⟨A20, c20, rfl, _⟩ := ho.row
  have R20 := hide ho
  clear ho hb
  go_wp2_with fail
  refine (partL_any gx bx fK2 A20 _ c20 [(1, (4, 8))] W20 Hx.out R20.out.rowAt.2.1 rfl (by simp) (by rw [k_own2]; omega)).mono ?_
  rintro e W21 ⟨v21, rfl, ho, hb⟩
  replace ho := ho.low HB.out.size
  replace Hx := hide (Hx.out.keep hb)
  replace Hd := hide (Hd.out.keep hb)
  replace R3 := hide (OwnC.keep R3.out hb)
  replace R5 := hide (OwnC.keep R5.out hb)
  replace R7 := hide (OwnC.keep R7.out hb)
  replace R9 := hide (OwnC.keep R9.out hb)
  replace R12 := hide (OwnC.keep R12.out hb)
  replace R16 := hide (OwnC.keep R16.out hb)
  replace R17 := hide (OwnC.keep R17.out hb)
  replace R18 := hide (OwnC.keep R18.out hb)
  replace R20 := hide (OwnC.keep R20.out hb)
  replace HB := hide (HB.out.trans (hb.mono HB.out.size))
  obtain ⟨A21, c21, rfl, _⟩ := ho.row
  have R21 := hide ho
  clear ho hb
  clear R21
  rw [k_part]
  go_wp2_with fail
  go_ret
  exact ⟨rfl, HB.out⟩
end Go.Proofs.Ytphojcnehgdbmaa.S2

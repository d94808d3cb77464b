/- Walk of the document's slate: Write. By hand. -/
import Derived.Test.YtimhbpfeofdfnaaDoorSlR
namespace Go.Proofs.YtimhbpfeofdfnaaDoor
open Go.RowKit Sl

theorem one_take {q : Tx} {j : Nat} (hj : j < q.length) (h : One (q.take j)) (hc : q[j] ≠ 10) : One (q.take (j + 1)) := by
  rw [List.take_add_one, List.getElem?_eq_getElem hj]
  intro x hx
  rcases List.mem_append.1 hx with hx | hx
  · exact h x hx
  · simp at hx; subst hx; exact hc
theorem hasE_at {q : Tx} {j : Nat} (hj : j < q.length) (hc : q[j] = 10) : hasE q = true := by
  unfold hasE; exact decide_eq_true (hc ▸ List.getElem_mem hj)
theorem any_next {ls : List Tx} {k : Nat} (hk : k < ls.length) (h : (ls.take k).any hasE = false) (hc : hasE ls[k] = false) : (ls.take (k + 1)).any hasE = false := by
  rw [List.take_add_one, List.getElem?_eq_getElem hk, List.any_append, h]; simp [hc]

theorem cat3 (a b : Tx) : str a ++ str b ++ (⟨#[10]⟩ : ByteArray) = str (a ++ (b ++ [10])) := by
  show str a ++ str b ++ str [10] = _
  rw [str_app, str_app, List.append_assoc]

theorem RefAt.drew {w : World} {Y : Nat} {s : St} (h : RefAt w Y s) : RefAt w.drew Y s := h.of_block rfl
theorem RefAt.set0 {w : World} {Y : Nat} {s : St} (h : RefAt w Y s) (t : Tx) : RefAt (w.setCell ⟨Y, 0, none⟩ (.string (str t))) Y ⟨t, s.off, s.lim, s.left⟩ :=
  ⟨World.cell?_setCell_same _ _ _ h.textc, by have := h.leftc; simp [World.cell?_setCell_other, this, leftR], by simp [World.cell?_setCell_other, h.offc], fun j => by rw [World.frozen?_setCell]; exact h.free j⟩
theorem RefAt.set1 {w : World} {Y : Nat} {s : St} (h : RefAt w Y s) (v : Int) (k : Nat) (e : v = (k : Int)) : RefAt (w.setCell ⟨Y, 1, none⟩ (.int .i64 v)) Y ⟨s.t, s.off, true, k⟩ :=
  ⟨by simp [World.cell?_setCell_other, h.textc], by subst e; exact World.cell?_setCell_same _ _ _ h.leftc, by simp [World.cell?_setCell_other, h.offc], fun j => by rw [World.frozen?_setCell]; exact h.free j⟩
theorem RefAt.set2 {w : World} {Y : Nat} {s : St} (h : RefAt w Y s) (b : Bool) : RefAt (w.setCell ⟨Y, 2, none⟩ (.bool b)) Y ⟨s.t, b, s.lim, s.left⟩ :=
  ⟨by simp [World.cell?_setCell_other, h.textc], by have := h.leftc; simp [World.cell?_setCell_other, this, leftR], World.cell?_setCell_same _ _ _ h.offc, fun j => by rw [World.frozen?_setCell]; exact h.free j⟩

set_option maxRecDepth 100000 in
set_option maxHeartbeats 3200000 in
theorem rWrite_any (Y : Nat) (s : St) (A : Option Addr) (n c : Nat) (ls : List Tx) (w : World) (h : RefAt w Y s) (hr : RowS w A ls) (hn : n = ls.length) (hsz : ls.length ≤ 100000)
    (hf : s.t.length + (flatW ls).length ≤ 10000000) (hz : s.left ≤ 9223372036854775807) :
    Calls Tryd.prog 11 #[.pointer (some ⟨Y, 0, none⟩), .slice A n c] w (fun e w' => e = .returned (.int .i64 (writeN s ls : Int)) ∧ RefAt w' Y (writeS s ls) ∧ Chg Y Y w w') := by
  subst hn
  have c2 := h.offc
  have HR := hide hr
  have HF := hide hf
  have HZ := hide hz
  have HS := hide h
  clear hr hf hz h
  cases ho : s.off with
  | true =>
    rw [ho] at c2
    have HW := hide (write_off s ls ho)
    clear ho
    go_enter Tryd.func11, Tryd.ntmps11
    go_wp2_with fail
    go_ret
    rw [HW.out.1, HW.out.2]
    exact ⟨rfl, HS.out, Chg.refl _ _ _⟩
  | false =>
    rw [ho] at c2
    have HOF := hide ho
    clear ho
    go_enter Tryd.func11, Tryd.ntmps11
    go_wp2_with fail
    go_loopw [5, 6] (fun al i wr => ∃ k : Nat, k ≤ ls.length ∧ i = .int .i64 k ∧ al = .string (str (flatW (ls.take k))) ∧ Hid ((ls.take k).any hasE = false) ∧ wr = w) (fun _ i _ => ls.length - (intOf i).toNat)
    case atStart => exact ⟨0, Nat.zero_le _, rfl, rfl, hide rfl, rfl⟩
    case round =>
      obtain ⟨k, hk, rfl, rfl, hq, rfl⟩ := hrel
      by_cases hlt : k < ls.length
      · have hnn : ls ≠ [] := fun e => by subst e; exact absurd hlt (Nat.not_lt_zero _)
        obtain ⟨b1, o1, rfl, hb1, hcell⟩ := HR.out hnn
        have p1 := hcell k hlt
        have HM := hide (List.getElem_mem hlt)
        have HFS := hide (flatW_split hlt)
        have HFT := hide (flatW_take hlt)
        have HNX := hide (any_next hlt hq.out)
        have hle : (flatW (ls.take k)).length + (ls[k]).length + 1 ≤ 10000000 := by have h1 := congrArg List.length (flatW_split hlt); have := HF.out; rw [List.length_append, List.length_append, List.length_append, List.length_singleton] at h1; omega
        generalize ls[k] = q at *
        generalize flatW (ls.take k) = pre at *
        have hi0 : (0 : Int) ≤ (k : Int) := by omega
        have hi1 : (k : Int) < (ls.length : Int) := by omega
        have hqs := str_size q
        have hps := str_size pre
        clear hcell hnn
        go_wp2_with fail
        go_loopw [7] (fun j wq => ∃ m : Nat, m ≤ q.length ∧ j = .int .i64 m ∧ Hid (One (q.take m)) ∧ wq = wr) (fun j _ => q.length - (intOf j).toNat)
        case atStart => exact ⟨0, Nat.zero_le _, rfl, hide (by intro x hx; simp at hx), rfl⟩
        case round =>
          obtain ⟨m, hm, rfl, hqm, rfl⟩ := hrel
          by_cases hlm : m < q.length
          · have hj0 : (0 : Int) ≤ (m : Int) := by omega
            have hj1 : (m : Int) < (q.length : Int) := by omega
            have hcc : (str q)[m]'(by rw [hqs]; exact hlm) = q[m] := by simp [str, ByteArray.getElem_eq_getElem_data]
            by_cases hc : q[m] = 10
            · have HA := hide (show ls.any hasE = true from List.any_eq_true.2 ⟨q, HM.out, hasE_at hlm hc⟩)
              have HW := hide (write_form s ls HOF.out HA.out)
              rw [hc] at hcc
              clear hc hq hqm
              go_wp2_with fail
              go_ret
              rw [HW.out.1, HW.out.2]
              exact ⟨rfl, HS.out, Chg.refl _ _ _⟩
            · have HO := hide (one_take hlm hqm.out hc)
              have hne : (((q[m]).toNat : Int) == 10) = false := by
                rw [beq_eq_false_iff_ne]
                intro e
                exact hc (UInt8.toNat_inj.1 (show (q[m]).toNat = 10 by omega))
              clear hc hqm
              go_wp2_with fail
              go_roundw
              case rel => exact ⟨m + 1, by omega, by go_num, HO, trivial⟩
              case measure => simp [intOf]; omega
          · obtain rfl : m = q.length := by omega
            have HO := hide (HNX.out (hasE_no.2 (by have := hqm.out; rwa [List.take_length] at this)))
            clear hq hqm
            have hcat : ¬ (9223372036854775807 < pre.length + q.length) := by omega
            have hcat2 : ¬ (9223372036854775807 < pre.length + q.length + 1) := by omega
            go_wp2_with fail
            refine ⟨⟨k + 1, by omega, by go_num, by rw [HFT.out, cat3], HO, trivial⟩, by simp [intOf]; omega⟩
      · obtain rfl : k = ls.length := by omega
        have HN := hide (show ls.any hasE = false by have := hq.out; rwa [List.take_length] at this)
        rw [List.take_length]
        obtain ⟨al, hal⟩ : ∃ al, flatW ls = al := ⟨_, rfl⟩
        rw [hal]
        have c0 := HS.out.textc
        have c1 := HS.out.leftc
        have f0 := HS.out.free 0
        have f1 := HS.out.free 1
        have f2 := HS.out.free 2
        have has := str_size al
        have hts := str_size s.t
        have hz2 : s.t.length + al.length ≤ 10000000 := by rw [← hal]; exact HF.out
        clear hq
        cases hl : s.lim with
        | false =>
          have HW := hide (whole_write s ls HOF.out HN.out (by rw [hl]; intro e; cases e))
          have HWS := hide (show wholeS s al = ⟨s.t ++ al, false, false, s.left⟩ by unfold wholeS; rw [hl]; rfl)
          rw [hal] at HW
          have hlr : leftR s = -1 := by unfold leftR; rw [hl]; rfl
          rw [hlr] at c1
          have HFI := hide (show RefAt (wr.setCell ⟨Y, 0, none⟩ (.string (str s.t ++ str al))) Y ⟨s.t ++ al, false, false, s.left⟩ by
            have := HS.out.set0 (s.t ++ al)
            rw [hl, HOF.out] at this
            rw [str_app]; exact this)
          clear hl hlr hal
          have hcat : ¬ (9223372036854775807 < s.t.length + al.length) := by omega
          go_wp2_with fail
          go_ret
          rw [HW.out.1, HW.out.2, HWS.out]
          exact ⟨rfl, HFI.out, (Chg.refl Y Y wr).set 0 _⟩
        | true =>
          have hlr : leftR s = (s.left : Int) := by unfold leftR; rw [hl]; rfl
          rw [hlr] at c1
          obtain ⟨lf, hlf⟩ : ∃ lf, s.left = lf := ⟨_, rfl⟩
          rw [hlf] at c1
          have hl0 : (0 : Int) ≤ (lf : Int) := by omega
          have hl1 : (lf : Int) ≤ 9223372036854775807 := by rw [← hlf]; have := HZ.out; omega
          by_cases hgt : lf < al.length
          · have HW := hide (short_write s ls HOF.out HN.out hl (by rw [hlf, hal]; exact hgt))
            rw [hal, hlf] at HW
            have hg2 : (lf : Int) < (al.length : Int) := by omega
            obtain ⟨Z, hZ⟩ : ∃ Z, al.take lf = Z := ⟨_, rfl⟩
            have hx : (str al).extract 0 lf = str Z := by rw [ext_str, str_list, ← hZ]; rfl
            have hzl : Z.length ≤ al.length := by rw [← hZ]; simp; omega
            rw [hZ] at HW
            have hzs := str_size Z
            have hcat : ¬ (9223372036854775807 < s.t.length + Z.length) := by omega
            have hg3 : (lf : Int) ≤ (al.length : Int) := by omega
            have HFI := hide (((HS.out.set0 (s.t ++ Z)).set1 0 0 rfl).set2 true).drew
            have HCI := hide ((((Chg.refl Y Y wr).set 0 (.string (str (s.t ++ Z)))).set 1 (.int .i64 0)).set 2 (.bool true)).drew
            rw [← str_app] at HFI HCI
            clear hl hlr hal hlf hZ
            go_wp2_with fail
            refine wp_region_still_tail 12 (by kernel_rfl) (by kernel_rfl) ?_
            simp only [List.take_succ_cons, List.take_zero, List.drop_succ_cons, List.drop_zero]
            change wpStill _ _ wr.drew (fun a' => wpList _ _ _ _ a' wr.drew) _ _
            iterate 12 still_step
            refine wpStill_nil ?_
            go_wp2_with fail
            go_ret
            rw [HW.out.1, HW.out.2]
            exact ⟨rfl, HFI.out, HCI.out⟩
          · have HW := hide (whole_write s ls HOF.out HN.out (by intro _; rw [hlf, hal]; omega))
            have HWS := hide (show wholeS s al = ⟨s.t ++ al, false, true, lf - al.length⟩ by unfold wholeS; rw [hl, ← hlf]; rfl)
            rw [hal] at HW
            have hg2 : ¬ ((lf : Int) < (al.length : Int)) := by omega
            have HFI := hide (show RefAt ((wr.setCell ⟨Y, 0, none⟩ (.string (str s.t ++ str al))).setCell ⟨Y, 1, none⟩ (.int .i64 ((lf : Int) - (al.length : Int)))) Y ⟨s.t ++ al, false, true, lf - al.length⟩ by
              have := (HS.out.set0 (s.t ++ al)).set1 ((lf : Int) - (al.length : Int)) (lf - al.length) (by omega)
              rw [HOF.out] at this
              rw [str_app]; exact this)
            clear hl hlr hal hlf
            have hcat : ¬ (9223372036854775807 < s.t.length + al.length) := by omega
            go_wp2_with fail
            go_ret
            rw [HW.out.1, HW.out.2, HWS.out]
            exact ⟨rfl, HFI.out, ((Chg.refl Y Y wr).set 0 _).set 1 _⟩
end Go.Proofs.YtimhbpfeofdfnaaDoor

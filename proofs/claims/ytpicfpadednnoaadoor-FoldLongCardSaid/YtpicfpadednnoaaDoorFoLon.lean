/- FoldLong walked: lines just as long as may be, and one more. -/
import Derived.Test.YtpicfpadednnoaaDoorFoK
import Derived.Laws.MakeOwn
import Derived.Laws.IdiomStrings
namespace Go.Proofs.YtpicfpadednnoaaDoor
open Go.RowKit Rul Rt Fo Go.Sort

theorem byte_info : (Tryd.prog.info? 5).map (fun i => (i.zero, i.size, i.bytes)) = some (some (.int .u8 0), 1, 1) := by kernel_rfl
theorem made_zero (n : Nat) : madeCells (Value.int .u8 0).cells n = Array.replicate n (Value.int .u8 0) := by
  apply Array.ext
  · rw [size_madeCells, Array.size_replicate]
  · intro i h1 h2
    simp [madeCells, Value.cells, Nat.mod_one]
theorem wp_makeB {ops : Array Oper} {rest : List Oper} {o : Oper} {a : Act} {Q : Exit → Act → World → Prop} {w : World} (hgd : o.guard = none) (l c : Operand)
    (ho : o.op = .makeSlice 34 l c) {n : Nat} (hl : a.eval l = .int .i64 n) (hc : a.eval c = .int .i64 n) (hn : n ≤ 1000000)
    (h : wpList Tryd.prog ops Q rest (a.put o.dst (.slice (some ⟨w.heap.size, 0, none⟩) n n)) (w.alloc (.cells (Array.replicate n (.int .u8 0)) 5))) :
    wpList Tryd.prog ops Q (o :: rest) a w := by
  obtain ⟨i0, hi, hz0, hz1, hz2⟩ := info_parts byte_info
  have hr := run_make (P := Tryd.prog) w 34 5 i0 _ Tryd.underlying34 hi hz0 .i64 .i64 (n : Int) (n : Int) (by omega) (Int.le_refl _) (by rw [hz2]; omega) (by omega)
  rw [Int.toNat_natCast, hz1, Nat.mul_one, made_zero] at hr
  refine wpList_plain hgd fun K hK' => ?_
  unfold Oper.wp
  simp [execOp, ho, hl, hc, hr, Result.andThen]
  exact hK' _ _ h

/-- the row of the line's bytes, the first j of them written. -/
def Wrote (W w : World) (g k j : Nat) (v : Int) : Prop := Below g W w ∧ ∀ t, t < k → w.cell? ⟨g, t, none⟩ = some (.int .u8 (if t < j then v else 0)) ∧ w.frozen? ⟨g, t, none⟩ = false
theorem wrote_new (w : World) (k : Nat) (v : Int) : Wrote w (w.alloc (.cells (Array.replicate k (.int .u8 0)) 5)) w.heap.size k 0 v := by
  refine ⟨more (start w) _, fun t ht => ⟨?_, ?_⟩⟩
  · rw [World.cell?_alloc_at _ _ _ _ rfl, if_neg (Nat.not_lt_zero _)]
    simp [ht]
  · simp
theorem Wrote.set {W w : World} {g k j : Nat} {v : Int} (h : Wrote W w g k j v) (hj : j < k) : Wrote W (w.setCell ⟨g, j, none⟩ (.int .u8 v)) g k (j + 1) v := by
  refine ⟨h.1.setCell (Nat.le_refl _) _, fun t ht => ⟨?_, ?_⟩⟩
  · by_cases e : t = j
    · subst e
      rw [World.cell?_setCell_same _ _ _ (h.2 t ht).1, if_pos (Nat.lt_succ_self _)]
    · rw [World.cell?_setCell_other _ _ _ _ (by intro hc; injection hc with _ hc1; exact e hc1.symm), (h.2 t ht).1]
      congr 2
      by_cases h1 : t < j
      · rw [if_pos h1, if_pos (by omega)]
      · rw [if_neg h1, if_neg (by omega)]
  · rw [World.frozen?_setCell]; exact (h.2 t ht).2

theorem wrote_text {W w : World} {g k v : Nat} (h : Wrote W w g k k (v : Int)) (hv : v < 256) :
    (convert 34 9 (.slice (some ⟨g, 0, none⟩) k k)).run Tryd.prog w = .ok (.string (str (List.replicate k (UInt8.ofNat v)))) w := by
  have hl : (List.replicate k (UInt8.ofNat v)).length = k := List.length_replicate
  have := run_convert_bytes_back (P := Tryd.prog) w 34 9 5 ⟨g, 0, none⟩ k (List.replicate k (UInt8.ofNat v)) Tryd.underlying34 Tryd.underlying5 Tryd.underlying9 (fun j hj => by
    rw [hl] at hj
    rw [plus, (h.2 j hj).1, if_pos hj, List.getElem_replicate]
    congr 2
    simp only [UInt8.toNat_ofNat']
    omega)
  rw [hl] at this
  exact this
theorem repl_facts (k v : Nat) (hv : 97 ≤ v ∧ v ≤ 122) : (13 : UInt8) ∉ List.replicate k (UInt8.ofNat v) ∧ (List.replicate k (UInt8.ofNat v)).head? ≠ some 32 := by
  have hn : (UInt8.ofNat v).toNat = v := by simp only [UInt8.toNat_ofNat']; omega
  constructor
  · intro h
    have := List.eq_of_mem_replicate h
    rw [← this] at hn
    have e : (13 : UInt8).toNat = 13 := rfl
    omega
  · intro h
    have := List.eq_of_mem_replicate (List.mem_of_mem_head? h)
    rw [← this] at hn
    have e : (32 : UInt8).toNat = 32 := rfl
    omega
theorem unfold_long (k v : Nat) (hv : 97 ≤ v ∧ v ≤ 122) : (unfoldE (foldE (List.replicate k (UInt8.ofNat v)))).length = min k 1 := by
  obtain ⟨h1, h2⟩ := repl_facts k v hv
  cases k with
  | zero => rw [List.replicate_zero, foldE_short [] (by simp), unfold_none]; rfl
  | succ k =>
    rw [unfold_fold _ (by simp) h2 h1]
    simp

set_option maxRecDepth 100000 in
set_option maxHeartbeats 1000000 in
theorem long_core (k cn : Nat) (w : World) (he : Env w) (hk : k ≤ 255) (hcn : cn ≤ 255) :
    Calls Tryd.prog 5 #[.int .u8 k, .int .u8 cn] w (Ans w (.bool true)) := by
  have HE := hide he
  have HK := hide (known_any w he)
  clear he
  obtain ⟨v, hv⟩ : ∃ v, 97 + cn % 26 = v := ⟨_, rfl⟩
  have hv1 : 97 ≤ v ∧ v ≤ 122 := by omega
  have hct : (cn : Int).tmod 26 = ((cn % 26 : Nat) : Int) := by rw [Int.tmod_eq_emod_of_nonneg (by omega)]; rfl
  obtain ⟨r, hr⟩ : ∃ r, cn % 26 = r := ⟨_, rfl⟩
  rw [hr] at hct hv
  have hr26 : (r : Int) ≤ 25 := by omega
  have hvr : (97 : Int) + (r : Int) = (v : Int) := by omega
  have hki : (k : Int) ≤ 255 := by omega
  clear hv
  go_enter Tryd.func5, Tryd.ntmps5
  go_wp2_with fail
  refine (HK.out).mono ?_
  rintro e w1 ⟨rfl, hb1⟩
  have HB := hide hb1
  clear hb1
  go_wp2_with (refine wp_makeB rfl _ _ rfl (n := k) rfl rfl (by omega) ?_)
  go_wp2_with fail
  generalize hg : w1.heap.size = g at *
  have HW0 : Hid (Wrote w1 (w1.alloc (.cells (Array.replicate k (.int .u8 0)) 5)) g k 0 (v : Int)) := hide (hg ▸ wrote_new w1 k v)
  generalize w1.alloc (.cells (Array.replicate k (.int .u8 0)) 5) = W0 at *
  go_loopw [7] (fun i wr => ∃ j : Nat, j ≤ k ∧ i = .int .i64 j ∧ Hid (Wrote w1 wr g k j (v : Int))) (fun i _ => k - (intOf i).toNat)
  case atStart => exact ⟨0, Nat.zero_le _, rfl, HW0⟩
  case round =>
    obtain ⟨j, hj, rfl, HW⟩ := hrel
    by_cases hlt : j < k
    · have hi0 : (0 : Int) ≤ (j : Int) := by omega
      have hi1 : (j : Int) < (k : Int) := by omega
      have p1 := (HW.out.2 j hlt).1
      have f1 := (HW.out.2 j hlt).2
      have HN := hide (HW.out.set hlt)
      go_wp2_with fail
      go_roundw
      case rel => exact ⟨j + 1, by omega, by go_num, HN⟩
      case measure => simp [intOf]; omega
    · obtain rfl : j = k := by omega
      have hcv := wrote_text HW.out (by omega)
      have HL := hide (unfold_long j v hv1)
      have hFl := foldE_len (List.replicate j (UInt8.ofNat v))
      have hl : (List.replicate j (UInt8.ofNat v)).length = j := List.length_replicate
      rw [hl] at hFl
      have C1 := hide (fun w => fold_at (List.replicate j (UInt8.ofNat v)) _ w (by rw [hl]; omega) rfl)
      generalize List.replicate j (UInt8.ofNat v) = L at *
      have C2 := hide (fun w he => unfold_at (foldE L) _ w he (by omega) rfl)
      generalize foldE L = F at *
      generalize unfoldE F = U at *
      replace HB := hide (HB.out.trans (HW.out.1.mono (by rw [← hg]; exact HB.out.size)))
      have hFs : (str F).size = j + 3 * ((j - 75 + 73) / 74) := by rw [str_size]; exact hFl
      rcases Nat.lt_or_ge 75 j with h75 | h75
      · have d75 : decide ((75 : Int) < (j : Int)) = true := decide_eq_true (by omega)
        have d75n : decide (75 < j) = true := decide_eq_true h75
        have qz : (((str F).size : Int) == (j : Int) + 3 * (((j : Int) - 2) / 74)) = true := by rw [beq_iff_eq]; omega
        have qmin : min (j : Int) 1 = 1 := by omega
        have qu : ((U.length : Int) == 1) = true := by rw [beq_iff_eq, HL.out]; omega
        clear hFs hFl hlt hl HW HW0
        go_wp2_with fail
        refine (C1.out _).mono ?_
        rintro e w2 ⟨rfl, hb2⟩
        replace HB := hide (andthen HB.out hb2)
        clear hb2
        go_wp2_with fail
        refine (C2.out _ (HE.out.keep HB.out)).mono ?_
        rintro e w3 ⟨vU, rfl, hown, hb3⟩
        obtain ⟨A3, c3, rfl, _, _⟩ := OwnS.row hown
        replace HB := hide (andthen HB.out hb3)
        clear hb3 hown
        go_wp2_with fail
        go_ret
        exact ⟨rfl, HB.out⟩
      · have d75 : decide ((75 : Int) < (j : Int)) = false := decide_eq_false (by omega)
        have d75n : decide (75 < j) = false := decide_eq_false (by omega)
        have qz : (((str F).size : Int) == (j : Int)) = true := by rw [beq_iff_eq]; omega
        obtain ⟨u, hu⟩ : ∃ u : Nat, min j 1 = u := ⟨_, rfl⟩
        have qmin : min (j : Int) 1 = (u : Int) := by omega
        have qu : ((U.length : Int) == (u : Int)) = true := by rw [beq_iff_eq, HL.out, hu]
        clear hFs hFl hlt hl HW HW0 hu
        go_wp2_with fail
        refine (C1.out _).mono ?_
        rintro e w2 ⟨rfl, hb2⟩
        replace HB := hide (andthen HB.out hb2)
        clear hb2
        go_wp2_with fail
        refine (C2.out _ (HE.out.keep HB.out)).mono ?_
        rintro e w3 ⟨vU, rfl, hown, hb3⟩
        obtain ⟨A3, c3, rfl, _, _⟩ := OwnS.row hown
        replace HB := hide (andthen HB.out hb3)
        clear hb3 hown
        go_wp2_with fail
        go_ret
        exact ⟨rfl, HB.out⟩

theorem long_any (k cn : Int) (w : World) (he : Env w) (h1 : 0 ≤ k) (h2 : k ≤ 255) (h3 : 0 ≤ cn) (h4 : cn ≤ 255) :
    Calls Tryd.prog 5 #[.int .u8 k, .int .u8 cn] w (Ans w (.bool true)) := by
  have := long_core k.toNat cn.toNat w he (by omega) (by omega)
  rw [Int.toNat_of_nonneg h1, Int.toNat_of_nonneg h3] at this
  exact this

end Go.Proofs.YtpicfpadednnoaaDoor

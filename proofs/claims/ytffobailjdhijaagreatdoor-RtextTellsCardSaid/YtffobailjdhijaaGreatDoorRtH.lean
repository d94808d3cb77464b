/- Walks of package rtext: the words, Day; lists, parts put together. -/
import Derived.Test.YtffobailjdhijaaGreatDoorRtG
import Derived.Great.BuildSlice
namespace Go.Proofs.YtffobailjdhijaaGreatDoor
open Go.RowKit Rul Rt Go.Sort

theorem bsDays (w : World) : (Instr.buildSlice 39 7 #[(0, .string ⟨#[77, 79]⟩), (1, .string ⟨#[84, 85]⟩), (2, .string ⟨#[87, 69]⟩), (3, .string ⟨#[84, 72]⟩), (4, .string ⟨#[70, 82]⟩), (5, .string ⟨#[83, 65]⟩), (6, .string ⟨#[83, 85]⟩)]).run Tryz.prog w = .ok (.slice (some ⟨w.heap.size, 0, none⟩) 7 7) (w.alloc (.cells #[.string ⟨#[77, 79]⟩, .string ⟨#[84, 85]⟩, .string ⟨#[87, 69]⟩, .string ⟨#[84, 72]⟩, .string ⟨#[70, 82]⟩, .string ⟨#[83, 65]⟩, .string ⟨#[83, 85]⟩] 9)) := by kernel_rfl
theorem bsFreqs (w : World) : (Instr.buildSlice 39 4 #[(0, .string ⟨#[68, 65, 73, 76, 89]⟩), (1, .string ⟨#[87, 69, 69, 75, 76, 89]⟩), (2, .string ⟨#[77, 79, 78, 84, 72, 76, 89]⟩), (3, .string ⟨#[89, 69, 65, 82, 76, 89]⟩)]).run Tryz.prog w = .ok (.slice (some ⟨w.heap.size, 0, none⟩) 4 4) (w.alloc (.cells #[.string ⟨#[68, 65, 73, 76, 89]⟩, .string ⟨#[87, 69, 69, 75, 76, 89]⟩, .string ⟨#[77, 79, 78, 84, 72, 76, 89]⟩, .string ⟨#[89, 69, 65, 82, 76, 89]⟩] 9)) := by kernel_rfl
/-- a call answers a row of texts, so long. -/
def RowA (w : World) (l : List Tx) (e : Ending) (w' : World) : Prop := ∃ b, e = .returned (.slice (some ⟨b, 0, none⟩) l.length l.length) ∧ RowS w' (some ⟨b, 0, none⟩) l ∧ Below w.heap.size w w'
set_option maxHeartbeats 400000 in
theorem dayWs_any (w : World) : Calls Tryz.prog 37 #[] w (RowA w dayWs) := by
  have hbs := bsDays
  go_enter Tryz.func37, Tryz.ntmps37
  go_wp2_with fail
  go_ret
  refine ⟨w.heap.size, rfl, fun _ => ⟨w.heap.size, 0, rfl, by simp, fun i hi => ?_⟩, more (start _) _⟩
  have hi7 : i < 7 := hi
  rw [World.cell?_alloc_at _ _ _ _ rfl]
  rcases (by omega : i = 0 ∨ i = 1 ∨ i = 2 ∨ i = 3 ∨ i = 4 ∨ i = 5 ∨ i = 6) with rfl | rfl | rfl | rfl | rfl | rfl | rfl <;> rfl
set_option maxHeartbeats 400000 in
theorem freqWs_any (w : World) : Calls Tryz.prog 54 #[] w (RowA w freqWs) := by
  have hbs := bsFreqs
  go_enter Tryz.func54, Tryz.ntmps54
  go_wp2_with fail
  go_ret
  refine ⟨w.heap.size, rfl, fun _ => ⟨w.heap.size, 0, rfl, by simp, fun i hi => ?_⟩, more (start _) _⟩
  have hi4 : i < 4 := hi
  rw [World.cell?_alloc_at _ _ _ _ rfl]
  rcases (by omega : i = 0 ∨ i = 1 ∨ i = 2 ∨ i = 3) with rfl | rfl | rfl | rfl <;> rfl

theorem rowS_at {w : World} {b : Nat} {l : List Tx} (h : RowS w (some ⟨b, 0, none⟩) l) (i : Nat) (hi : i < l.length) : w.cell? ⟨b, i, none⟩ = some (.string (str l[i])) := by
  obtain ⟨b2, o2, e, _, hc⟩ := h (by intro e; rw [e] at hi; simp at hi)
  injection e with e
  injection e with e1 e2
  subst e1 e2
  have := hc i hi
  rwa [Nat.zero_add] at this
set_option maxRecDepth 100000 in
set_option maxHeartbeats 400000 in
theorem freqT_any (n : Int) (w : World) (h1 : 1 ≤ n) (h2 : n ≤ 4) : Calls Tryz.prog 28 #[.int .i64 n] w (Ans w (.string (str (freqT n)))) := by
  obtain ⟨k, rfl⟩ : ∃ k : Nat, n = (k : Int) + 1 := ⟨(n - 1).toNat, by omega⟩
  have hk : k < 4 := by omega
  have hT : Hid (freqT ((k : Int) + 1) = freqWs[k]'hk) := hide (by
    unfold freqT
    rw [show ((k : Int) + 1).toNat - 1 = k by omega, List.getD_eq_getElem?_getD, List.getElem?_eq_getElem (show k < freqWs.length from hk)]; rfl)
  have hk0 : (0 : Int) ≤ (k : Int) := by omega
  have hk4 : (k : Int) < 4 := by omega
  go_enter Tryz.func28, Tryz.ntmps28
  go_wp2_with fail
  refine (freqWs_any _).mono ?_
  rintro e w1 ⟨b, rfl, hr, hb⟩
  have c := rowS_at hr k hk
  have hlen : freqWs.length = 4 := rfl
  rw [hlen]
  generalize freqWs[k]'hk = F at *
  go_wp2_with fail
  go_ret
  exact ⟨ret_str (by rw [hT.out]), hb⟩
set_option maxHeartbeats 400000 in
theorem freqOf_any (t : ByteArray) (w : World) : Calls Tryz.prog 63 #[.string t] w (MayI w ((ixOf freqWs t.data.toList).map fun k => ((k + 1 : Nat) : Int))) := by
  obtain ⟨T, hT⟩ : ∃ T, t.data.toList = T := ⟨_, rfl⟩
  have ht : t = str T := by rw [← hT]; exact str_of t
  subst ht
  rw [hT]
  cases ho : ixOf freqWs T with
  | none =>
    have HX : Hid (ixE freqWs T = -1) := hide (by unfold ixE; rw [ho])
    clear ho
    go_enter Tryz.func63, Tryz.ntmps63
    go_wp2_with fail
    refine (freqWs_any _).mono ?_
    rintro e w1 ⟨b, rfl, hr, hb⟩
    go_wp2_with fail
    refine (ixS_any T _ _ _ freqWs _ hr rfl (by decide)).mono ?_
    rintro e w2 ⟨rfl, hb2⟩
    rw [HX.out]
    go_wp2_with fail
    go_ret2
    exact ⟨0, fun m hm => (by cases hm), rfl, andthen hb hb2⟩
  | some k =>
    have HX : Hid (ixE freqWs T = k) := hide (by unfold ixE; rw [ho])
    have hk : k < 4 := by
      have := ixOf_some ho
      rw [List.getElem?_eq_some_iff] at this
      exact this.1
    have hk0 : (0 : Int) ≤ (k : Int) := by omega
    have hk4 : (k : Int) < 4 := by omega
    clear ho
    go_enter Tryz.func63, Tryz.ntmps63
    go_wp2_with fail
    refine (freqWs_any _).mono ?_
    rintro e w1 ⟨b, rfl, hr, hb⟩
    go_wp2_with fail
    refine (ixS_any T _ _ _ freqWs _ hr rfl (by decide)).mono ?_
    rintro e w2 ⟨rfl, hb2⟩
    rw [HX.out]
    go_wp2_with fail
    go_ret2
    exact ⟨1 + (k : Int), fun m hm => (by have e := Option.some.inj hm; rw [← e]; show 1 + (k : Int) = ((k + 1 : Nat) : Int); omega), rfl, andthen hb hb2⟩

set_option maxHeartbeats 400000 in
theorem unless_any (a n : Int) (w : World) (h : in64 n) (ht : Tab w) : Calls Tryz.prog 29 #[.int .i64 a, .int .i64 n] w (Ans w (.string (str (unlessT a n)))) := by
  have HT := hide ht
  clear ht
  by_cases hq : n = a
  · have q : (n == a) = true := by rw [beq_iff_eq]; exact hq
    have HU : Hid (unlessT a n = []) := hide (if_pos hq)
    clear hq
    go_enter Tryz.func29, Tryz.ntmps29
    go_wp2_with fail
    go_ret
    exact ⟨by rw [HU.out]; rfl, start _⟩
  · have q : (n == a) = false := beq_eq_false_iff_ne.2 hq
    have HU : Hid (unlessT a n = Lib.itoa n) := hide (if_neg hq)
    clear hq
    go_enter Tryz.func29, Tryz.ntmps29
    go_wp2_with fail
    refine (itoa_all n _ h HT.out).mono ?_
    rintro e w1 ⟨rfl, hb⟩
    go_wp2_with fail
    go_ret
    exact ⟨ret_str (by rw [HU.out]), hb⟩

/-- the words ahead are not at the text's end. -/
def lastW (t : Tx) : Tx := t.drop (t.length - 2)
theorem suf_iff (t W : Tx) (hW : W.length = 2) : Lib.hasSuffix t W = decide (lastW t = W) := by
  unfold Lib.hasSuffix lastW
  rw [Bool.eq_iff_iff, List.isSuffixOf_iff_suffix, List.suffix_iff_eq_drop, decide_eq_true_eq, hW]
  exact ⟨fun h => h.symm, fun h => h.symm⟩
theorem day_len (k : Nat) (hk : k < 7) : (dayWs[k]'hk).length = 2 := by
  have : ∀ k : Nat, k < 7 → (dayWs.getD k []).length = 2 := by decide
  have h := this k hk
  rw [List.getD_eq_getElem?_getD, List.getElem?_eq_getElem (show k < dayWs.length from hk)] at h
  exact h
theorem wd_none (t : Tx) (h : ixOf dayWs (lastW t) = none) : wdWith numC t = none := by
  unfold wdWith; unfold lastW at h; rw [h]
theorem wd_some (t : Tx) (k : Nat) (h : ixOf dayWs (lastW t) = some k) : wdWith numC t = (posW (t.take (t.length - 2))).map fun n => (n, (k : Int)) := by
  have hm : lastW t ∈ dayWs := List.mem_of_getElem? (ixOf_some h)
  have hl : (lastW t).length = 2 := by
    have : ∀ w ∈ dayWs, w.length = 2 := by decide
    exact this _ hm
  have h2 : 2 ≤ t.length := by unfold lastW at hl; rw [List.length_drop] at hl; omega
  unfold wdWith
  unfold lastW at h
  rw [h]
  simp only
  unfold posW
  by_cases e : t.length = 2
  · rw [if_pos e, if_pos (by rw [e]; rfl)]; rfl
  · rw [if_neg e, if_neg (by intro g; have := congrArg List.length g; rw [List.length_take, List.length_nil] at this; omega)]
    cases numC (t.take (t.length - 2)) with
    | none => rfl
    | some n =>
      simp only
      split <;> rfl
/-- a weekday, or none. -/
def MayW (w : World) (o : Option Wd) (e : Ending) (w' : World) : Prop := ∃ n d : Int, (∀ m, o = some m → (n, d) = m) ∧ e = .returned (.tuple #[.agg #[.int .i64 n, .int .i64 d], .bool o.isSome]) ∧ Below w.heap.size w w'
theorem two_new (w : World) (x0 x1 : Value) (t : TypeId) : Two2 w w.heap.size x0 x1 (w.alloc (.cells #[x0, x1] t)) := by
  refine ⟨?_, ?_, more (start _) _⟩
  all_goals (rw [World.cell?_alloc_at _ _ _ _ rfl]; rfl)

set_option maxRecDepth 100000 in
set_option maxHeartbeats 2000000 in
theorem wday_any (t : ByteArray) (w : World) (he : Env w) (ht : t.size ≤ 100000) :
    Calls Tryz.prog 71 #[.string t] w (MayW w (wdWith numC t.data.toList)) := by
  have HE := hide he
  clear he
  have HW0 := hide (two_new w (.int .i64 0) (.int .i64 0) 27)
  go_enter Tryz.func71, Tryz.ntmps71
  go_wp2_with fail
  refine (dayWs_any _).mono ?_
  rintro e w1 ⟨b, rfl, hr, hb⟩
  have HT1 := hide (HW0.out.keep hb)
  have HR := hide hr
  have hz : w.heap.size < w1.heap.size := by have := hb.size; simp only [World.size_alloc] at this; omega
  have hf0 : w1.frozen? ⟨w.heap.size, 0, none⟩ = false := (hb.frozen (p := ⟨w.heap.size, 0, none⟩) (by simp)).trans (by simp)
  have hf1 : w1.frozen? ⟨w.heap.size, 1, none⟩ = false := (hb.frozen (p := ⟨w.heap.size, 1, none⟩) (by simp)).trans (by simp)
  have HF := hide (And.intro hf0 hf1)
  have hlen : dayWs.length = 7 := rfl
  rw [hlen]
  clear hr hf0 hf1 hb HW0
  go_wp2_with fail
  go_loopw [11] (fun i wr => ∃ j : Nat, j ≤ 7 ∧ i = .int .i64 j ∧ Hid (∀ i (hi : i < dayWs.length), i < j → dayWs[i] ≠ lastW t.data.toList) ∧ Below w1.heap.size w1 wr) (fun i _ => 7 - (intOf i).toNat)
  case atStart => exact ⟨0, Nat.zero_le _, rfl, hide fun i hi h => absurd h (Nat.not_lt_zero _), start _⟩
  case round =>
    obtain ⟨j, hj, rfl, HN0, hbw⟩ := hrel
    have HBR := hide hbw
    by_cases hlt : j < 7
    · have c := cell_keep hbw (rowS_at HR.out j hlt)
      have hi0 : (0 : Int) ≤ (j : Int) := by omega
      have hi1 : (j : Int) < 7 := by omega
      have hS := suf_iff t.data.toList (dayWs[j]'hlt) (day_len j hlt)
      replace HBR := hide (andthen (Two2.keep HT1.out hbw).2.2 (start wr))
      have HTr := hide (Two2.keep HT1.out hbw)
      have hfr0 : wr.frozen? ⟨w.heap.size, 0, none⟩ = false := (hbw.frozen (p := ⟨w.heap.size, 0, none⟩) hz).trans HF.out.1
      have hfr1 : wr.frozen? ⟨w.heap.size, 1, none⟩ = false := (hbw.frozen (p := ⟨w.heap.size, 1, none⟩) hz).trans HF.out.2
      have hzr : w.heap.size < wr.heap.size := Nat.lt_of_lt_of_le hz hbw.size
      have HEr := hide (HE.out.keep HTr.out.2.2)
      by_cases hq : lastW t.data.toList = dayWs[j]'hlt
      · have HX : Hid (wdWith numC t.data.toList = (posW (t.data.toList.take (t.data.toList.length - 2))).map fun n => (n, (j : Int))) := hide (wd_some _ j (ixOf_at dayWs j hlt HN0.out hq.symm))
        rw [decide_eq_true hq] at hS
        have hTr : Lib.trimSuffix t.data.toList (dayWs[j]'hlt) = t.data.toList.take (t.data.toList.length - 2) := by unfold Lib.trimSuffix; rw [hS, if_pos rfl, day_len j hlt]
        have HC := hide (fun w => suffix_all (dayWs[j]'hlt) (str (dayWs[j]'hlt)) rfl t w ht)
        rw [hS, hTr] at HC
        have hP : (str (t.data.toList.take (t.data.toList.length - 2))).size ≤ 100000 := by rw [str_size, List.length_take, len_of]; omega
        have hD : (str (t.data.toList.take (t.data.toList.length - 2))).data.toList = t.data.toList.take (t.data.toList.length - 2) := str_list _
        generalize dayWs[j]'hlt = D at *
        generalize t.data.toList.take (t.data.toList.length - 2) = P at *
        clear hS hTr hq hbw
        go_wp2_with fail
        refine (HC.out _).mono ?_
        rintro e v1 ⟨rfl, hb1⟩
        go_wp2_with fail
        refine (position_any (str P) _ (HEr.out.keep hb1) hP).mono ?_
        rintro e v2 ⟨n, hn, rfl, hb2⟩
        rw [hD] at hn ⊢
        have hb12 := andthen hb1 hb2
        have HV := hide (Two2.keep HTr.out hb12)
        have f0 : v2.frozen? ⟨w.heap.size, 0, none⟩ = false := (hb12.frozen (p := ⟨w.heap.size, 0, none⟩) hzr).trans hfr0
        have f1 : v2.frozen? ⟨w.heap.size, 1, none⟩ = false := (hb12.frozen (p := ⟨w.heap.size, 1, none⟩) hzr).trans hfr1
        have z2 : w.heap.size < v2.heap.size := Nat.lt_of_lt_of_le hzr hb12.size
        have x0 := HV.out.1
        have x1 := HV.out.2.1
        have HNN := hide hn
        obtain ⟨B, hB⟩ : ∃ B, (posW P).isSome = B := ⟨_, rfl⟩
        rw [hB]
        clear hn hb1 hb2 hb12 hfr0 hfr1 c
        go_wp2_with fail
        refine ret_gen (Two2 w w.heap.size (.int .i64 n) (.int .i64 j)) (two_set HV.out) ?_
        rintro WF ⟨c0, c1, hb⟩
        refine bodyPost_ret (v := .tuple #[.agg #[.int .i64 n, .int .i64 j], .bool B]) (by simp [results, Tryz.results71, go_sem, c0, c1]) rfl ⟨n, (j : Int), fun m hm => ?_, ?_, hb⟩
        · rw [HX.out, Option.map_eq_some_iff] at hm
          obtain ⟨y, hy, rfl⟩ := hm
          rw [HNN.out y hy]
        · rw [HX.out, ← hB, Option.isSome_map]
      · have HN : Hid (∀ i (hi : i < dayWs.length), i < j + 1 → dayWs[i] ≠ lastW t.data.toList) := hide (fun i hi hij => by
          rcases Nat.lt_or_ge i j with g | g
          · exact HN0.out i hi g
          · obtain rfl : i = j := by omega
            exact fun e => hq e.symm)
        rw [decide_eq_false hq] at hS
        have HC := hide (fun w => suffix_all (dayWs[j]'hlt) (str (dayWs[j]'hlt)) rfl t w ht)
        rw [hS] at HC
        generalize Lib.trimSuffix t.data.toList (dayWs[j]'hlt) = Z at *
        generalize dayWs[j]'hlt = D at *
        have HBW := hide hbw
        clear hS hq hbw
        go_wp2_with fail
        refine (HC.out _).mono ?_
        rintro e v1 ⟨rfl, hb1⟩
        replace HBW := hide (andthen HBW.out hb1)
        clear hb1
        go_wp2_with fail
        go_roundw
        case rel => exact ⟨j + 1, by omega, by go_num, HN, HBW.out⟩
        case measure => simp [intOf]; omega
    · obtain rfl : j = 7 := by omega
      have HX := hide (wd_none _ (ixOf_nowhere dayWs fun i hi => HN0.out i hi hi))
      have HV := hide (Two2.keep HT1.out hbw)
      have f0 : wr.frozen? ⟨w.heap.size, 0, none⟩ = false := (hbw.frozen (p := ⟨w.heap.size, 0, none⟩) hz).trans HF.out.1
      have f1 : wr.frozen? ⟨w.heap.size, 1, none⟩ = false := (hbw.frozen (p := ⟨w.heap.size, 1, none⟩) hz).trans HF.out.2
      have z2 : w.heap.size < wr.heap.size := Nat.lt_of_lt_of_le hz hbw.size
      have x0 := HV.out.1
      have x1 := HV.out.2.1
      clear hbw HBR
      go_wp2_with fail
      refine ret_gen (Two2 w w.heap.size (.int .i64 0) (.int .i64 0)) (two_set HV.out) ?_
      rintro WF ⟨c0, c1, hb⟩
      exact bodyPost_ret (v := .tuple #[.agg #[.int .i64 0, .int .i64 0], .bool false]) (by simp [results, Tryz.results71, go_sem, c0, c1]) rfl ⟨0, 0, fun m hm => (by rw [HX.out] at hm; cases hm), by rw [HX.out]; rfl, hb⟩

end Go.Proofs.YtffobailjdhijaaGreatDoor

/- Walks of package rtext: texts cut into parts, elements; elements read and put in order. -/
import Derived.Test.YtffobailjdhijaaGreatDoorRtJ
namespace Go.Proofs.YtffobailjdhijaaGreatDoor
open Go.RowKit Rul Rt Go.Sort

theorem wp_makeD {ops : Array Oper} {rest : List Oper} {o : Oper} {a : Act} {Q : Exit → Act → World → Prop} {w : World} (hgd : o.guard = none) (l c : Operand)
    (ho : o.op = .makeSlice 22 l c) (hl : a.eval l = .int .i64 0) {C : Int} {n : Nat} (hc : a.eval c = .int .i64 C) (hC : C = (n : Int)) (hn : n ≤ 1000000)
    (h : ∀ v w', OwnD w' w.heap.size v [] → Below w.heap.size w w' → wpList Tryz.prog ops Q rest (a.put o.dst v) w') :
    wpList Tryz.prog ops Q (o :: rest) a w := by
  obtain ⟨i0, hi, hz0, hz1, hz2⟩ := info_parts day_info
  refine wpList_make_own w hgd l c 22 ho w.heap.size 27 i0 _ 2 Tryz.underlying22 hi hz0 hz1 .i64 .i64 C n hl hc hC (by rw [hz2]; omega) (by unfold maxLen; omega) (Nat.le_refl _) ?_
  intro w' h2 h3
  exact h _ w' h2 ((Below.refl w.heap.size w).grown h3 (Nat.le_refl _) fun j hj => by cases hj)
theorem wp_makeI2 {ops : Array Oper} {rest : List Oper} {o : Oper} {a : Act} {Q : Exit → Act → World → Prop} {w : World} (hgd : o.guard = none) (l c : Operand)
    (ho : o.op = .makeSlice 23 l c) (hl : a.eval l = .int .i64 0) {C : Int} {n : Nat} (hc : a.eval c = .int .i64 C) (hC : C = (n : Int)) (hn : n ≤ 1000000)
    (h : ∀ v w', OwnI w' w.heap.size v [] → Below w.heap.size w w' → wpList Tryz.prog ops Q rest (a.put o.dst v) w') :
    wpList Tryz.prog ops Q (o :: rest) a w := by
  obtain ⟨i0, hi, hz0, hz1, hz2⟩ := info_parts int_info
  refine wpList_make_own w hgd l c 23 ho w.heap.size 3 i0 _ 1 Tryz.underlying23 hi hz0 hz1 .i64 .i64 C n hl hc hC (by rw [hz2]; omega) (by unfold maxLen; omega) (Nat.le_refl _) ?_
  intro w' h2 h3
  exact h _ w' h2 ((Below.refl w.heap.size w).grown h3 (Nat.le_refl _) fun j hj => by cases hj)
/-- a row of the call's own, or none. -/
def SortsI (w : World) (o : Option (List Int)) (e : Ending) (w' : World) : Prop := Below w.heap.size w w' ∧ ((o = none ∧ e = .returned (.tuple #[.slice none 0 0, .bool false])) ∨ ∃ l v, o = some l ∧ e = .returned (.tuple #[v, .bool true]) ∧ OwnI w' w.heap.size v l)
def SortsD (w : World) (o : Option (List Wd)) (e : Ending) (w' : World) : Prop := Below w.heap.size w w' ∧ ((o = none ∧ e = .returned (.tuple #[.slice none 0 0, .bool false])) ∨ ∃ l v, o = some l ∧ e = .returned (.tuple #[v, .bool true]) ∧ OwnD w' w.heap.size v l)
theorem some_step {α : Type} {f : Tx → Option α} {l : List Tx} {j : Nat} {acc : List α} {x : α} (hlt : j < l.length) (h : allSome f (l.take j) = some acc) (hx : f l[j] = some x) : allSome f (l.take (j + 1)) = some (acc ++ [x]) := by
  rw [List.take_succ_eq_append_getElem hlt]
  exact allSome_snoc f _ _ h hx
theorem none_at {α : Type} {f : Tx → Option α} {l : List Tx} {j : Nat} (hlt : j < l.length) (hx : f l[j] = none) : allSome f l = none := allSome_none f (List.getElem_mem hlt) hx
theorem numT_at (t : Tx) (o : Option Int) (w : World) (he : Env w) (ht : t.length ≤ 100000) (h : numC t = o) :
    Calls Tryz.prog 67 #[.string (str t)] w (Ans w (optA o)) := by
  have := numT_any (str t) w he (by rw [str_size]; exact ht)
  rw [str_list, h] at this
  exact this
theorem wday_at (t : Tx) (o : Option Wd) (w : World) (he : Env w) (ht : t.length ≤ 100000) (h : wdWith numC t = o) :
    Calls Tryz.prog 71 #[.string (str t)] w (MayW w o) := by
  have := wday_any (str t) w he (by rw [str_size]; exact ht)
  rw [str_list, h] at this
  exact this


set_option maxRecDepth 100000 in
set_option maxHeartbeats 1000000 in
theorem sortedI_any (A : Option Addr) (n c : Nat) (l : List Tx) (w : World) (hl : RowS w A l) (hn : n = l.length) (hsz : l.length ≤ 1000) (hb : ∀ p ∈ l, p.length ≤ 100000) (he : Env w) :
    Calls Tryz.prog 66 #[.func (.func 67) #[] #[], .func (.func 68) #[] #[], .slice A n c] w (SortsI w ((allSome numC l).map (srt inLt))) := by
  subst hn
  have HR := hide hl
  have HE := hide he
  have HB := hide hb
  clear hl he hb
  go_enter Tryz.func66, Tryz.ntmps66
  go_wp2_with (refine wp_makeI2 rfl _ _ rfl rfl (n := l.length) rfl rfl (by omega) ?_; intro v0 w0 hown0 hb0)
  have HO0 := hide hown0
  have HB0 := hide hb0
  clear hown0 hb0
  go_wp2_with fail
  go_loopw [8, 10, 11, 12, 18] (fun v _ _ _ i wr => ∃ (j : Nat) (acc : List Int), j ≤ l.length ∧ i = .int .i64 j ∧ OwnI wr w.heap.size v acc ∧ Hid (allSome numC (l.take j) = some acc) ∧ Below w.heap.size w wr) (fun _ _ _ _ i _ => l.length - (intOf i).toNat)
  case atStart => exact ⟨0, [], Nat.zero_le _, rfl, HO0.out, hide rfl, HB0.out⟩
  case round =>
    obtain ⟨j, acc, hj, rfl, hown, HA, hbw⟩ := hrel
    have HO := hide hown
    have HBR := hide hbw
    clear hown hbw
    have hacc : acc.length ≤ j := by have := allSome_len HA.out; rw [List.length_take] at this; omega
    by_cases hlt : j < l.length
    · obtain ⟨b1, o1, rfl, hb1, hc1⟩ := HR.out (by intro h0; rw [h0] at hlt; exact absurd hlt (Nat.not_lt_zero _))
      obtain ⟨T, hm⟩ : ∃ T, l[j] = T := ⟨_, rfl⟩
      have hT := HB.out l[j] (List.getElem_mem _)
      rw [hm] at hT
      have p1 : wr.cell? ⟨b1, o1 + j, none⟩ = some (.string (str T)) := by rw [← hm]; exact (HBR.out.cell (p := ⟨b1, _, none⟩) hb1).trans (hc1 j hlt)
      have hi0 : (0 : Int) ≤ (j : Int) := by omega
      have hi1 : (j : Int) < (l.length : Int) := by omega
      clear hc1
      cases hx : numC T with
      | none =>
        have HN : Hid ((allSome numC l).map (srt inLt) = none) := hide (by rw [none_at hlt (by rw [hm]; exact hx)]; rfl)
        have HX := hide hx
        clear hx hm
        go_wp2_with fail
        refine (numT_at T none _ (HE.out.below HBR.out (Nat.le_refl _)) hT HX.out).mono ?_
        rintro e v1 ⟨rfl, hbv⟩
        unfold optA
        go_wp2_with fail
        go_ret2
        exact ⟨andthen HBR.out hbv, Or.inl ⟨HN.out, rfl⟩⟩
      | some x =>
        have HN := hide (some_step hlt HA.out (by rw [hm]; exact hx))
        have HX := hide hx
        clear hx hm
        go_wp2_with fail
        refine (numT_at T (some x) _ (HE.out.below HBR.out (Nat.le_refl _)) hT HX.out).mono ?_
        rintro e v1 ⟨rfl, hbv⟩
        unfold optA
        simp only [Option.getD_some, Option.isSome_some]
        replace HO := hide (HO.out.keep hbv)
        replace HBR := hide (andthen HBR.out hbv)
        have hz := HBR.out.size
        have hown := HO.out
        have hln : acc.length ≤ 1000000 := by omega
        clear hbv
        go_wp2_with (at_builtin; refine wp_oneI (l := acc) (p := x) rfl _ _ rfl rfl rfl rfl hown hz hln ?_; intro v3 w3 hown3 hb3)
        have HO3 := hide hown3
        have HB3 := hide (HBR.out.trans hb3)
        clear hown hown3 hb3 hz hln
        go_wp2_with fail
        go_roundw
        case rel => exact ⟨j + 1, acc ++ [x], by omega, by go_num, HO3.out, HN, HB3.out⟩
        case measure => simp [intOf]; omega
    · obtain rfl : j = l.length := by omega
      rw [List.take_length] at HA
      have HF : Hid ((allSome numC l).map (srt inLt) = some (srt inLt acc)) := hide (by rw [HA.out]; rfl)
      go_wp2_with fail
      refine (sortI_any w.heap.size _ acc _ HO.out (by omega)).mono ?_
      rintro e v1 ⟨rfl, hown2, hgr⟩
      have HB2 := hide (HBR.out.grown hgr HBR.out.size fun k hk => (HO.out.lt k hk).1)
      have HO2 := hide hown2
      clear hgr hown2
      go_wp2_with fail
      go_ret2
      exact ⟨HB2.out, Or.inr ⟨_, _, HF.out, rfl, HO2.out⟩⟩

set_option maxRecDepth 100000 in
set_option maxHeartbeats 1000000 in
theorem sortedD_any (A : Option Addr) (n c : Nat) (l : List Tx) (w : World) (hl : RowS w A l) (hn : n = l.length) (hsz : l.length ≤ 1000) (hb : ∀ p ∈ l, p.length ≤ 100000) (he : Env w) :
    Calls Tryz.prog 70 #[.func (.func 71) #[] #[], .func (.func 72) #[] #[], .slice A n c] w (SortsD w ((allSome (wdWith numC) l).map (srt wdLt))) := by
  subst hn
  have HR := hide hl
  have HE := hide he
  have HB := hide hb
  clear hl he hb
  go_enter Tryz.func70, Tryz.ntmps70
  go_wp2_with (refine wp_makeD rfl _ _ rfl rfl (n := l.length) rfl rfl (by omega) ?_; intro v0 w0 hown0 hb0)
  have HO0 := hide hown0
  have HB0 := hide hb0
  clear hown0 hb0
  go_wp2_with fail
  go_loopw [8, 10, 11, 12, 18] (fun v _ _ _ i wr => ∃ (j : Nat) (acc : List Wd), j ≤ l.length ∧ i = .int .i64 j ∧ OwnD wr w.heap.size v acc ∧ Hid (allSome (wdWith numC) (l.take j) = some acc) ∧ Below w.heap.size w wr) (fun _ _ _ _ i _ => l.length - (intOf i).toNat)
  case atStart => exact ⟨0, [], Nat.zero_le _, rfl, HO0.out, hide rfl, HB0.out⟩
  case round =>
    obtain ⟨j, acc, hj, rfl, hown, HA, hbw⟩ := hrel
    have HO := hide hown
    have HBR := hide hbw
    clear hown hbw
    have hacc : acc.length ≤ j := by have := allSome_len HA.out; rw [List.length_take] at this; omega
    by_cases hlt : j < l.length
    · obtain ⟨b1, o1, rfl, hb1, hc1⟩ := HR.out (by intro h0; rw [h0] at hlt; exact absurd hlt (Nat.not_lt_zero _))
      obtain ⟨T, hm⟩ : ∃ T, l[j] = T := ⟨_, rfl⟩
      have hT := HB.out l[j] (List.getElem_mem _)
      rw [hm] at hT
      have p1 : wr.cell? ⟨b1, o1 + j, none⟩ = some (.string (str T)) := by rw [← hm]; exact (HBR.out.cell (p := ⟨b1, _, none⟩) hb1).trans (hc1 j hlt)
      have hi0 : (0 : Int) ≤ (j : Int) := by omega
      have hi1 : (j : Int) < (l.length : Int) := by omega
      clear hc1
      cases hx : wdWith numC T with
      | none =>
        have HN : Hid ((allSome (wdWith numC) l).map (srt wdLt) = none) := hide (by rw [none_at hlt (by rw [hm]; exact hx)]; rfl)
        have HX := hide hx
        clear hx hm
        go_wp2_with fail
        refine (wday_at T none _ (HE.out.below HBR.out (Nat.le_refl _)) hT HX.out).mono ?_
        rintro e v1 ⟨n, d, _, rfl, hbv⟩
        rw [Option.isSome_none]
        go_wp2_with fail
        go_ret2
        exact ⟨more (andthen HBR.out hbv) _, Or.inl ⟨HN.out, rfl⟩⟩
      | some x =>
        have HN := hide (some_step hlt HA.out (by rw [hm]; exact hx))
        have HX := hide hx
        clear hx hm
        go_wp2_with fail
        refine (wday_at T (some x) _ (HE.out.below HBR.out (Nat.le_refl _)) hT HX.out).mono ?_
        rintro e v1 ⟨n, d, hnd, rfl, hbv⟩
        rw [Option.isSome_some]
        obtain rfl := hnd x rfl
        clear hnd
        have hbV := more (start v1) (.cells #[.int .i64 n, .int .i64 d] 27)
        replace hbv := andthen hbv hbV
        replace HO := hide (HO.out.keep hbv)
        replace HBR := hide (andthen HBR.out hbv)
        have hz := HBR.out.size
        have hown := HO.out
        have hln : acc.length ≤ 1000000 := by omega
        clear hbv
        go_wp2_with (at_builtin; refine wp_oneD (l := acc) (p := (n, d)) rfl _ _ rfl rfl (World.size_alloc _ _) rfl hown hz hln ?_; intro v3 w3 hown3 hb3)
        have HO3 := hide hown3
        have HB3 := hide (HBR.out.trans hb3)
        clear hown hown3 hb3 hz hln
        go_wp2_with fail
        go_roundw
        case rel => exact ⟨j + 1, acc ++ [(n, d)], by omega, by go_num, HO3.out, HN, HB3.out⟩
        case measure => simp [intOf]; omega
    · obtain rfl : j = l.length := by omega
      rw [List.take_length] at HA
      have HF : Hid ((allSome (wdWith numC) l).map (srt wdLt) = some (srt wdLt acc)) := hide (by rw [HA.out]; rfl)
      go_wp2_with fail
      refine (sortD_any w.heap.size _ acc _ HO.out (by omega)).mono ?_
      rintro e v1 ⟨rfl, hown2, hgr⟩
      have HB2 := hide (HBR.out.grown hgr HBR.out.size fun k hk => (HO.out.lt k hk).1)
      have HO2 := hide hown2
      clear hgr hown2
      go_wp2_with fail
      go_ret2
      exact ⟨HB2.out, Or.inr ⟨_, _, HF.out, rfl, HO2.out⟩⟩

/-- a call answers a row of texts in new memory, so many. -/
def PiecesS (w : World) (l : List Tx) (e : Ending) (w' : World) : Prop := ∃ A cap, e = .returned (.slice A l.length cap) ∧ RowS w' A l ∧ Below w.heap.size w w'
set_option maxHeartbeats 400000 in
theorem partsOf_at (t : ByteArray) (w : World) (he : Env w) (ht : t.size ≤ 100000) :
    Calls Tryz.prog 22 #[.string t] w (PiecesS w (Lib.splitN t.data.toList [59] 8)) := by
  have HE := hide he
  clear he
  go_enter Tryz.func22, Tryz.ntmps22
  go_wp2_with fail
  refine (splitN_all 59 _ rfl 8 _ rfl t _ HE.out ht (by omega) (by omega)).mono ?_
  rintro e w1 ⟨A, cap, rfl, hr, hb⟩
  go_wp2_with fail
  go_ret
  exact ⟨A, cap, rfl, hr, hb⟩
set_option maxHeartbeats 400000 in
theorem elementsOf_at (t : ByteArray) (w : World) (he : Env w) (ht : t.size ≤ 100000) :
    Calls Tryz.prog 69 #[.string t] w (PiecesS w (Lib.splitN t.data.toList [44] 13)) := by
  have HE := hide he
  clear he
  go_enter Tryz.func69, Tryz.ntmps69
  go_wp2_with fail
  refine (splitN_all 44 _ rfl 13 _ rfl t _ HE.out ht (by omega) (by omega)).mono ?_
  rintro e w1 ⟨A, cap, rfl, hr, hb⟩
  go_wp2_with fail
  go_ret
  exact ⟨A, cap, rfl, hr, hb⟩
/-- pieces are no longer than the text, and no more than asked for. -/
theorem splitK_le (c : UInt8) : ∀ (k : Nat) (l : Tx), (∀ p ∈ Lib.splitK [c] 0 k l, p.length ≤ l.length) ∧ (Lib.splitK [c] 0 k l).length ≤ k + 1
  | 0, l => ⟨fun p hp => by simp [Lib.splitK] at hp; subst hp; exact Nat.le_refl _, by simp [Lib.splitK]⟩
  | k + 1, l => by
    by_cases h : c ∈ l
    · obtain ⟨p, q, rfl, hp⟩ := split_at c l h
      have ih := splitK_le c k q
      rw [splitK_hit c k p q hp]
      refine ⟨fun x hx => ?_, by rw [List.length_cons]; omega⟩
      rw [List.length_append, List.length_cons]
      rcases List.mem_cons.1 hx with rfl | hx
      · omega
      · have := ih.1 x hx; omega
    · rw [splitK_miss c _ l h]
      exact ⟨fun p hp => by rw [List.mem_singleton.1 hp]; exact Nat.le_refl _, by simp⟩
theorem splitN_le (c : UInt8) (n : Nat) (l : Tx) : (∀ p ∈ Lib.splitN l [c] (n + 1), p.length ≤ l.length) ∧ (Lib.splitN l [c] (n + 1)).length ≤ n + 1 := by
  rw [splitN_eq]
  have := splitK_le c (min n l.length) l
  exact ⟨this.1, by have := this.2; omega⟩

end Go.Proofs.YtffobailjdhijaaGreatDoor

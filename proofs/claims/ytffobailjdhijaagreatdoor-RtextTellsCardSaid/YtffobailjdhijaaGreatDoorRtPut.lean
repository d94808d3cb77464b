/- Walks of the document's texts: put, Ints. -/
import Derived.Test.YtffobailjdhijaaGreatDoorRtPrF
import Derived.Test.YtffobailjdhijaaGreatDoorRtC
import Derived.Test.YtffobailjdhijaaGreatDoorRuX
import Derived.Deep.Cut
namespace Go.Proofs.YtffobailjdhijaaGreatDoor
open Go.RowKit Rul Rt Go.Sort

/-- a row of numbers of its own, or none. -/
def PutA (w : World) (o : Option (List Int)) (e : Ending) (w' : World) : Prop := Below w.heap.size w w' ∧
  ((o = none ∧ ∃ v, e = .returned (.tuple #[v, .bool false])) ∨ ∃ l v, o = some l ∧ e = .returned (.tuple #[v, .bool true]) ∧ OwnI w' w.heap.size v l)
theorem OwnI.low2 {w : World} {B B2 : Nat} {v : Value} {l : List Int} (h : OwnI w B v l) (hb : B2 ≤ B) : OwnI w B2 v l := by
  refine ⟨h.1, ?_⟩
  rcases h.2 with g | ⟨g, cap, cur, e, hg, r⟩
  · exact Or.inl g
  · exact Or.inr ⟨g, cap, cur, e, Nat.le_trans hb hg, r⟩

set_option maxRecDepth 100000 in
set_option maxHeartbeats 1000000 in
theorem put_any (x : Int) (A : Option Addr) (n c : Nat) (l : List Int) (w : World) (hl : RowI w A l) (hn : n = l.length) (hsz : l.length ≤ 100000) :
    Calls Tryz.prog 78 #[.slice A n c, .int .i64 x] w (PutA w (putO inLt x l)) := by
  subst hn
  have HR := hide hl
  clear hl
  go_enter Tryz.func78, Tryz.ntmps78
  go_wp2_with fail
  go_loopw [6, 7, 8] (fun v d i wr => ∃ (j : Nat) (out : List Int) (b : Bool), j ≤ l.length ∧ i = .int .i64 j ∧ d = .bool b ∧ OwnI wr w.heap.size v out ∧ Hid (PutAt inLt x l j out b) ∧ Hid (out.length ≤ j + 1) ∧ Below w.heap.size w wr) (fun _ _ i _ => l.length - (intOf i).toNat)
  case atStart => exact ⟨0, [], false, Nat.zero_le _, rfl, rfl, ownI_nil _ _, hide (PutAt.zero inLt x l), hide (Nat.zero_le _), start _⟩
  case round =>
    obtain ⟨j, out, b, hj, rfl, rfl, hown, HP, HL, hbw⟩ := hrel
    have HO := hide hown
    have HBR := hide hbw
    clear hown hbw
    by_cases hlt : j < l.length
    · obtain ⟨b1, o1, rfl, hb1, hc1⟩ := HR.out (by intro h0; rw [h0] at hlt; exact absurd hlt (Nat.not_lt_zero _))
      obtain ⟨m, hm⟩ : ∃ m, l[j] = m := ⟨_, rfl⟩
      have p1 : wr.cell? ⟨b1, o1 + j, none⟩ = some (.int .i64 m) := by rw [← hm]; exact (HBR.out.cell (p := ⟨b1, _, none⟩) hb1).trans (hc1 j hlt)
      have hi0 : (0 : Int) ≤ (j : Int) := by omega
      have hi1 : (j : Int) < (l.length : Int) := by omega
      clear hc1
      by_cases hq : m = x
      · have q : (m == x) = true := beq_iff_eq.2 hq
        have HN : Hid (putO inLt x l = none) := hide (putO_no (by rw [← hq, ← hm]; exact List.getElem_mem hlt))
        clear hm hq
        go_wp2_with fail
        go_ret2
        exact ⟨HBR.out, Or.inl ⟨HN.out, _, rfl⟩⟩
      · have q : (m == x) = false := beq_eq_false_iff_ne.2 hq
        cases b with
        | true =>
          have HN : Hid (PutAt inLt x l (j + 1) (out ++ [m]) true) := hide (by have := HP.out.past hlt (by rw [hm]; exact hq); rwa [hm] at this)
          have hz := HBR.out.size
          have hown := HO.out
          have hln : out.length ≤ 1000000 := by have := HL.out; omega
          clear hm hq
          go_wp2_with (at_builtin; refine wp_oneI (l := out) (p := m) rfl _ _ rfl rfl rfl rfl hown hz hln ?_; intro v3 w3 hown3 hb3)
          have HO3 := hide hown3
          have HB3 := hide (HBR.out.trans hb3)
          clear hown hown3 hb3 hz hln
          go_wp2_with fail
          go_roundw
          case rel => exact ⟨j + 1, out ++ [m], true, by omega, by go_num, rfl, HO3.out, HN, hide (by have := HL.out; rw [List.length_append]; simp; omega), HB3.out⟩
          case measure => simp [intOf]; omega
        | false =>
          by_cases ht : x < m
          · have q2 : decide (x < m) = true := decide_eq_true ht
            have HN : Hid (PutAt inLt x l (j + 1) ((out ++ [x]) ++ [m]) true) := hide (by have := HP.out.ahead hlt (by rw [hm]; exact hq) (by rw [hm]; exact q2); rwa [hm] at this)
            have HLO : Hid (out.length ≤ j) := hide (by
              rcases HP.out.rest with ⟨_, e, _⟩ | ⟨e, _⟩
              · rw [e, List.length_take]; omega
              · cases e)
            have hz := HBR.out.size
            have hown := HO.out
            have hln : out.length ≤ 1000000 := by have := HL.out; omega
            clear hm hq ht
            go_upto_region 11 with (at_builtin; refine wp_oneI (l := out) (p := x) rfl _ _ rfl rfl rfl rfl hown hz hln ?_; intro v3 w3 hown3 hb3; have p2 : w3.cell? ⟨b1, o1 + j, none⟩ = some (.int .i64 m) := (hb3.cell (p := ⟨b1, _, none⟩) hb1).trans p1)
            have HO3 := hide hown3
            have HB3 := hide (HBR.out.trans hb3)
            have hz := HB3.out.size
            clear hown hown3 hb3 hz hln p1
            have hz := HB3.out.size
            have hown := HO3.out
            have hln : (out ++ [x]).length ≤ 1000000 := by have := HL.out; rw [List.length_append]; simp; omega
            go_wp2_with (at_builtin; refine wp_oneI (l := out ++ [x]) (p := m) rfl _ _ rfl rfl rfl rfl hown hz hln ?_; intro v4 w4 hown4 hb4)
            have HO4 := hide hown4
            have HB4 := hide (HB3.out.trans hb4)
            clear hown hown4 hb4 hz hln
            go_wp2_with fail
            go_roundw
            case rel => exact ⟨j + 1, _, true, by omega, by go_num, rfl, HO4.out, HN, hide (by have := HLO.out; rw [List.length_append, List.length_append]; simp; omega), HB4.out⟩
            case measure => simp [intOf]; omega
          · have q2 : decide (x < m) = false := decide_eq_false ht
            have HN : Hid (PutAt inLt x l (j + 1) (out ++ [m]) false) := hide (by have := HP.out.skip hlt (by rw [hm]; exact hq) (by rw [hm]; exact q2); rwa [hm] at this)
            have hz := HBR.out.size
            have hown := HO.out
            have hln : out.length ≤ 1000000 := by have := HL.out; omega
            clear hm hq ht
            go_wp2_with (at_builtin; refine wp_oneI (l := out) (p := m) rfl _ _ rfl rfl rfl rfl hown hz hln ?_; intro v3 w3 hown3 hb3)
            have HO3 := hide hown3
            have HB3 := hide (HBR.out.trans hb3)
            clear hown hown3 hb3 hz hln
            go_wp2_with fail
            go_roundw
            case rel => exact ⟨j + 1, out ++ [m], false, by omega, by go_num, rfl, HO3.out, HN, hide (by have := HL.out; rw [List.length_append]; simp; omega), HB3.out⟩
            case measure => simp [intOf]; omega
    · obtain rfl : j = l.length := by omega
      cases b with
      | true =>
        have HF : Hid (putO inLt x l = some out) := hide (by obtain ⟨e, hn⟩ := HP.out.done; rw [putO_yes hn, e])
        go_wp2_with fail
        go_ret2
        exact ⟨HBR.out, Or.inr ⟨_, _, HF.out, rfl, HO.out⟩⟩
      | false =>
        have HF : Hid (putO inLt x l = some (out ++ [x])) := hide (by obtain ⟨e, hn⟩ := HP.out.last; rw [putO_yes hn, e])
        have hz := HBR.out.size
        have hown := HO.out
        have hln : out.length ≤ 1000000 := by have := HL.out; omega
        go_wp2_with (at_builtin; refine wp_oneI (l := out) (p := x) rfl _ _ rfl rfl rfl rfl hown hz hln ?_; intro v3 w3 hown3 hb3)
        have HO3 := hide hown3
        have HB3 := hide (HBR.out.trans hb3)
        clear hown hown3 hb3 hz hln
        go_wp2_with fail
        go_ret2
        exact ⟨HB3.out, Or.inr ⟨_, _, HF.out, rfl, HO3.out⟩⟩

/-- a row of numbers read, or none. -/
def IntsA (w : World) (o : Option (List Int)) (e : Ending) (w' : World) : Prop := Below w.heap.size w w' ∧
  ((o = none ∧ e = .returned (.tuple #[.slice none 0 0, .bool false])) ∨ ∃ l v, o = some l ∧ e = .returned (.tuple #[v, .bool true]) ∧ OwnI w' w.heap.size v l)
theorem cutAt_sub (c : UInt8) : ∀ (t p : Tx), p ∈ cutAt c t → p.length ≤ t.length := fun t p hp => by
  have h := join_cut c t
  have key : ∀ ps : List Tx, p ∈ ps → p.length ≤ (joinAt c ps).length := by
    intro ps
    induction ps with
    | nil => intro h; cases h
    | cons q r ih =>
      intro h
      cases r with
      | nil =>
        simp only [List.mem_cons, List.not_mem_nil, or_false] at h
        rw [h]; exact Nat.le_refl _
      | cons z r =>
        rw [joinAt, List.length_append, List.length_cons]
        rcases List.mem_cons.1 h with rfl | h
        · omega
        · have := ih h; omega
  have := key _ hp
  rwa [h] at this
set_option maxRecDepth 100000 in
set_option maxHeartbeats 1000000 in
theorem ints_any (s : ByteArray) (b : Bool) (w : World) (hs : s.size ≤ 900) :
    Calls Tryz.prog 50 #[.string s, .bool b] w (IntsA w (listR inLt (decR · b) s.data.toList)) := by
  have hcl := cutAt_len 44 s.data.toList
  have hcs := cutAt_sub 44 s.data.toList
  rw [len_of] at hcl hcs
  have HC := hide (fun w => rCut_any s 44 44 w rfl (by omega))
  have HF : Hid (listR inLt (decR · b) s.data.toList = insAll inLt (decR · b) (cutAt 44 s.data.toList) []) := hide rfl
  rw [HF.out]
  generalize cutAt 44 s.data.toList = ps at *
  clear HF
  go_enter Tryz.func50, Tryz.ntmps50
  go_wp2_with fail
  refine (HC.out _).mono ?_
  rintro e w1 ⟨v, rfl, hown, hb1⟩
  obtain ⟨A, cap, rfl, hrow, hcap⟩ := OwnS.row hown
  have HR := hide hrow
  have HB1 := hide hb1
  clear hown hrow hb1
  go_wp2_with fail
  go_loopw [7, 8, 9, 10] (fun v i _ _ wr => ∃ (j : Nat) (k : List Int), j ≤ ps.length ∧ i = .int .i64 j ∧ OwnI wr w.heap.size v k ∧ Hid (insAll inLt (decR · b) (ps.take j) [] = some k) ∧ Below w1.heap.size w1 wr) (fun _ i _ _ _ => ps.length - (intOf i).toNat)
  case atStart => exact ⟨0, [], Nat.zero_le _, rfl, ownI_nil _ _, hide rfl, start _⟩
  case round =>
    obtain ⟨j, k, hj, rfl, hown, HK, hbw⟩ := hrel
    have HO := hide hown
    have HBR := hide hbw
    have HBW := hide (andthen HB1.out hbw)
    clear hown hbw
    by_cases hlt : j < ps.length
    · obtain ⟨b1, o1, rfl, hb1, hc1⟩ := HR.out (by intro h0; rw [h0] at hlt; exact absurd hlt (Nat.not_lt_zero _))
      obtain ⟨T, hm⟩ : ∃ T, ps[j] = T := ⟨_, rfl⟩
      have p1 : wr.cell? ⟨b1, o1 + j, none⟩ = some (.string (str T)) := by rw [← hm]; exact (HBR.out.cell (p := ⟨b1, _, none⟩) hb1).trans (hc1 j hlt)
      have hi0 : (0 : Int) ≤ (j : Int) := by omega
      have hi1 : (j : Int) < (ps.length : Int) := by omega
      have hT : (str T).size ≤ 100000 := by rw [str_size, ← hm]; exact Nat.le_trans (hcs _ (List.getElem_mem hlt)) (by omega)
      have HD := hide (fun w => rDec_any (str T) b w hT)
      have hkl : k.length ≤ 1000 := by have := insAll_len _ _ _ HK.out; rw [List.length_take, List.length_nil] at this; omega
      rw [str_list] at HD
      clear hc1
      cases hd : decR T b with
      | none =>
        rw [decA_none hd] at HD
        have HN : Hid (insAll inLt (decR · b) ps [] = none) := hide (insAll_at_none hlt HK.out (by rw [hm]; simp only [hd]))
        clear hm hd
        go_wp2_with fail
        refine (HD.out _).mono ?_
        rintro e w2 ⟨rfl, rfl⟩
        go_wp2_with fail
        go_ret2
        exact ⟨HBW.out, Or.inl ⟨HN.out, rfl⟩⟩
      | some x =>
        rw [decA_some hd] at HD
        obtain ⟨A2, cap2, rfl, hrow2⟩ := OwnI.row HO.out
        have HP := hide (fun w h => put_any x A2 _ cap2 k w h rfl (by omega))
        have HRW := hide hrow2
        clear hrow2
        go_wp2_with fail
        refine (HD.out _).mono ?_
        rintro e w2 ⟨rfl, rfl⟩
        go_wp2_with fail
        refine (HP.out _ HRW.out).mono ?_
        rintro e w3 ⟨hb3, ⟨hnone, v3, rfl⟩ | ⟨k2, v3, hsome, rfl, hown3⟩⟩
        · have HN : Hid (insAll inLt (decR · b) ps [] = none) := hide (insAll_at_none hlt HK.out (by rw [hm]; simp only [hd]; exact hnone))
          replace HBW := hide (andthen HBW.out hb3)
          clear hm hd hb3 hnone
          go_wp2_with fail
          go_ret2
          exact ⟨HBW.out, Or.inl ⟨HN.out, rfl⟩⟩
        · have HN : Hid (insAll inLt (decR · b) (ps.take (j + 1)) [] = some k2) := hide (by
            rw [List.take_succ_eq_append_getElem hlt, insAll_snoc _ _ _ HK.out, hm]; simp only [hd]; exact hsome)
          have HO3 := hide (hown3.low2 HBW.out.size)
          replace HBR := hide (andthen HBR.out hb3)
          clear hm hd hb3 hsome hown3
          go_wp2_with fail
          go_roundw
          case rel => exact ⟨j + 1, k2, by omega, by go_num, HO3.out, HN, HBR.out⟩
          case measure => simp [intOf]; omega
    · obtain rfl : j = ps.length := by omega
      rw [List.take_length] at HK
      go_wp2_with fail
      go_ret2
      exact ⟨HBW.out, Or.inr ⟨_, _, HK.out, rfl, HO.out⟩⟩

end Go.Proofs.YtffobailjdhijaaGreatDoor

/- ClJ; ClL of the recipes, what is needed of them. -/
import Derived.RegionTactic
import Derived.Deep.QuietTactic
import Derived.BigQuiet
import Derived.Test.YtlmdceeeahnkcaaGreatDoorBC1
import Derived.Test.YtlmdceeeahnkcaaGreatDoorBC2
import Derived.Test.YtlmdceeeahnkcaaGreatDoorBC3
import Derived.Test.YtlmdceeeahnkcaaGreatDoorBS5
namespace Go.Proofs.YtlmdceeeahnkcaaGreatDoor.S2
open Go.RowKit Spn Cl

theorem takeC_ne {l k : List C} {i : Nat} (hi : i < l.length) (hk : i < k.length) (h : l[i] ≠ k[i]) : l ≠ k := by
  rintro rfl; exact h rfl
theorem sameC_all {l k : List C} (hl : l.length = k.length) (h : l.take l.length = k.take l.length) : l = k := by
  rw [List.take_length, hl, List.take_length] at h; exact h

set_option maxRecDepth 100000 in
set_option maxHeartbeats 2000000 in
theorem equalC_any (A B : Option Addr) (n m c d : Nat) (l k : List C) (w : World) (hl : RowC w A l) (hk : RowC w B k) (hn : n = l.length) (hm : m = k.length) (hsz : l.length ≤ 1000000) (hsk : k.length ≤ 1000000) :
    Calls Tryz.prog 58 #[.slice A n c, .slice B m d] w fun e w' => e = .returned (.bool (decide (l = k))) ∧ Below w.heap.size w w' := by
  subst hn hm
  by_cases hlen : l.length = k.length
  · by_cases hnil : l = []
    · subst hnil
      have hkn : k = [] := List.eq_nil_of_length_eq_zero hlen.symm
      subst hkn
      go_enter Tryz.func58, Tryz.ntmps58
      go_wp2_with fail
      refine wp_loop_rounds 1 ?_
      rw [rounds_succ]
      go_wp2_with fail
      go_ret
      exact ⟨rfl, start _⟩
    · obtain ⟨b1, o1, rfl, hb1, hc1⟩ := hl hnil
      obtain ⟨b2, o2, rfl, hb2, hc2⟩ := hk (by rintro rfl; exact hnil (List.eq_nil_of_length_eq_zero hlen))
      have HC1 := hide hc1
      have HC2 := hide hc2
      have HL := hide hlen
      rw [← hlen]
      clear hl hk hc1 hc2 hlen hnil
      go_enter Tryz.func58, Tryz.ntmps58
      go_wp2_with fail
      go_loopw [13] (fun i wr => ∃ j : Nat, j ≤ l.length ∧ i = .int .i64 j ∧ l.take j = k.take j ∧ Below w.heap.size w wr) (fun i _ => l.length - (intOf i).toNat)
      case atStart => exact ⟨0, Nat.zero_le _, rfl, rfl, start _⟩
      case round =>
        obtain ⟨j, hj, rfl, heq, hbw⟩ := hrel
        have HE := hide heq
        clear heq
        by_cases hlt : j < l.length
        · have hlk : j < k.length := by have := HL.out; omega
          obtain ⟨x1, x2, x3⟩ := HC1.out j hlt
          obtain ⟨y1, y2, y3⟩ := HC2.out j hlk
          have HTL := hide (show l.take (j + 1) = l.take j ++ [l[j]] from List.take_succ_eq_append_getElem hlt)
          have HTK := hide (show k.take (j + 1) = k.take j ++ [k[j]] from List.take_succ_eq_append_getElem hlk)
          have HNE := hide (fun (h : l[j] ≠ k[j]) => takeC_ne hlt hlk h)
          obtain ⟨u, hu⟩ : ∃ u, l[j] = u := ⟨_, rfl⟩
          obtain ⟨v, hv⟩ : ∃ v, k[j] = v := ⟨_, rfl⟩
          rw [hu] at x1 x2 x3 HTL HNE
          rw [hv] at y1 y2 y3 HTK HNE
          obtain ⟨a, f, t⟩ := u
          obtain ⟨b, g, s⟩ := v
          have p1 : wr.cell? ⟨b1, o1 + j * 3, none⟩ = some (.int .i64 a) := (hbw.cell (p := ⟨b1, _, none⟩) hb1).trans x1
          have p2 : wr.cell? ⟨b1, o1 + j * 3 + 1, none⟩ = some (.int .i64 f) := (hbw.cell (p := ⟨b1, _, none⟩) hb1).trans x2
          have p3 : wr.cell? ⟨b1, o1 + j * 3 + 2, none⟩ = some (.int .i64 t) := (hbw.cell (p := ⟨b1, _, none⟩) hb1).trans x3
          have p4 : wr.cell? ⟨b2, o2 + j * 3, none⟩ = some (.int .i64 b) := (hbw.cell (p := ⟨b2, _, none⟩) hb2).trans y1
          have p5 : wr.cell? ⟨b2, o2 + j * 3 + 1, none⟩ = some (.int .i64 g) := (hbw.cell (p := ⟨b2, _, none⟩) hb2).trans y2
          have p6 : wr.cell? ⟨b2, o2 + j * 3 + 2, none⟩ = some (.int .i64 s) := (hbw.cell (p := ⟨b2, _, none⟩) hb2).trans y3
          have hi0 : (0 : Int) ≤ (j : Int) := by omega
          have hi1 : (j : Int) < (l.length : Int) := by omega
          clear x1 x2 x3 y1 y2 y3 hu hv
          cases e1 : (a == b)
          · have HN : Hid (l ≠ k) := hide (HNE.out (by intro h; injection h with h1 h2; rw [h1, beq_self_eq_true] at e1; cases e1))
            go_wp2_with fail
            go_quiet (fail)
            go_wp2_with fail
            go_ret
            exact ⟨ret_bool (decide_eq_false HN.out).symm, below_drawn hbw _⟩
          · cases e2 : (f == g)
            · have HN : Hid (l ≠ k) := hide (HNE.out (by intro h; injection h with h1 h2; injection h2 with h2 h3; rw [h2, beq_self_eq_true] at e2; cases e2))
              go_wp2_with fail
              go_quiet (fail)
              go_wp2_with fail
              go_ret
              exact ⟨ret_bool (decide_eq_false HN.out).symm, below_drawn hbw _⟩
            · cases e3 : (t == s)
              · have HN : Hid (l ≠ k) := hide (HNE.out (by intro h; injection h with h1 h2; injection h2 with h2 h3; rw [h3, beq_self_eq_true] at e3; cases e3))
                go_wp2_with fail
                go_quiet (fail)
                go_wp2_with fail
                go_ret
                exact ⟨ret_bool (decide_eq_false HN.out).symm, below_drawn hbw _⟩
              · have HN : Hid (l.take (j + 1) = k.take (j + 1)) := by
                  show l.take (j + 1) = k.take (j + 1)
                  rw [HTL.out, HTK.out, HE.out, show a = b by simpa using e1, show f = g by simpa using e2, show t = s by simpa using e3]
                go_wp2_with fail
                go_quiet (fail)
                go_wp2_with fail
                go_roundw
                case rel => exact ⟨j + 1, by omega, by go_num, HN.out, below_drawn hbw _⟩
                case measure => simp [intOf]; omega
        · obtain rfl : j = l.length := by omega
          have HF : Hid (l = k) := sameC_all HL.out HE.out
          go_wp2_with fail
          go_ret
          exact ⟨ret_bool (decide_eq_true HF.out).symm, hbw⟩
  · have HF : Hid (l ≠ k) := fun h => hlen (by rw [h])
    have e0 : (l.length == k.length) = false := by rw [beq_eq_false_iff_ne]; exact hlen
    have e1 : ((l.length : Int) == (k.length : Int)) = false := by rw [beq_eq_false_iff_ne]; omega
    have e2 : ((l.length : Int) != (k.length : Int)) = true := by rw [bne_iff_ne]; omega
    clear hl hk
    go_enter Tryz.func58, Tryz.ntmps58
    go_wp2_with fail
    go_ret
    exact ⟨ret_bool (decide_eq_false HF.out).symm, start _⟩

set_option maxRecDepth 100000 in
set_option maxHeartbeats 2000000 in
theorem R.equalC_any (A B : Option Addr) (n m c d : Nat) (l k : List C) (w : World) (hl : RowC w A l) (hk : RowC w B k) (hn : n = l.length) (hm : m = k.length) (hsz : l.length ≤ 1000000) (hsk : k.length ≤ 1000000) :
    Calls Tryz.prog 28 #[.slice A n c, .slice B m d] w fun e w' => e = .returned (.bool (decide (l = k))) ∧ Below w.heap.size w w' := by
  subst hn hm
  by_cases hlen : l.length = k.length
  · by_cases hnil : l = []
    · subst hnil
      have hkn : k = [] := List.eq_nil_of_length_eq_zero hlen.symm
      subst hkn
      go_enter Tryz.func28, Tryz.ntmps28
      go_wp2_with fail
      refine wp_loop_rounds 1 ?_
      rw [rounds_succ]
      go_wp2_with fail
      go_ret
      exact ⟨rfl, start _⟩
    · obtain ⟨b1, o1, rfl, hb1, hc1⟩ := hl hnil
      obtain ⟨b2, o2, rfl, hb2, hc2⟩ := hk (by rintro rfl; exact hnil (List.eq_nil_of_length_eq_zero hlen))
      have HC1 := hide hc1
      have HC2 := hide hc2
      have HL := hide hlen
      rw [← hlen]
      clear hl hk hc1 hc2 hlen hnil
      go_enter Tryz.func28, Tryz.ntmps28
      go_wp2_with fail
      go_loopw [5] (fun i wr => ∃ j : Nat, j ≤ l.length ∧ i = .int .i64 j ∧ l.take j = k.take j ∧ Below w.heap.size w wr) (fun i _ => l.length - (intOf i).toNat)
      case atStart => exact ⟨0, Nat.zero_le _, rfl, rfl, start _⟩
      case round =>
        obtain ⟨j, hj, rfl, heq, hbw⟩ := hrel
        have HE := hide heq
        clear heq
        by_cases hlt : j < l.length
        · have hlk : j < k.length := by have := HL.out; omega
          obtain ⟨x1, x2, x3⟩ := HC1.out j hlt
          obtain ⟨y1, y2, y3⟩ := HC2.out j hlk
          have HTL := hide (show l.take (j + 1) = l.take j ++ [l[j]] from List.take_succ_eq_append_getElem hlt)
          have HTK := hide (show k.take (j + 1) = k.take j ++ [k[j]] from List.take_succ_eq_append_getElem hlk)
          have HNE := hide (fun (h : l[j] ≠ k[j]) => takeC_ne hlt hlk h)
          obtain ⟨u, hu⟩ : ∃ u, l[j] = u := ⟨_, rfl⟩
          obtain ⟨v, hv⟩ : ∃ v, k[j] = v := ⟨_, rfl⟩
          rw [hu] at x1 x2 x3 HTL HNE
          rw [hv] at y1 y2 y3 HTK HNE
          obtain ⟨a, f, t⟩ := u
          obtain ⟨b, g, s⟩ := v
          have p1 : wr.cell? ⟨b1, o1 + j * 3, none⟩ = some (.int .i64 a) := (hbw.cell (p := ⟨b1, _, none⟩) hb1).trans x1
          have p2 : wr.cell? ⟨b1, o1 + j * 3 + 1, none⟩ = some (.int .i64 f) := (hbw.cell (p := ⟨b1, _, none⟩) hb1).trans x2
          have p3 : wr.cell? ⟨b1, o1 + j * 3 + 2, none⟩ = some (.int .i64 t) := (hbw.cell (p := ⟨b1, _, none⟩) hb1).trans x3
          have p4 : wr.cell? ⟨b2, o2 + j * 3, none⟩ = some (.int .i64 b) := (hbw.cell (p := ⟨b2, _, none⟩) hb2).trans y1
          have p5 : wr.cell? ⟨b2, o2 + j * 3 + 1, none⟩ = some (.int .i64 g) := (hbw.cell (p := ⟨b2, _, none⟩) hb2).trans y2
          have p6 : wr.cell? ⟨b2, o2 + j * 3 + 2, none⟩ = some (.int .i64 s) := (hbw.cell (p := ⟨b2, _, none⟩) hb2).trans y3
          have hi0 : (0 : Int) ≤ (j : Int) := by omega
          have hi1 : (j : Int) < (l.length : Int) := by omega
          clear x1 x2 x3 y1 y2 y3 hu hv
          cases e1 : (a == b)
          · have HN : Hid (l ≠ k) := hide (HNE.out (by intro h; injection h with h1 h2; rw [h1, beq_self_eq_true] at e1; cases e1))
            go_wp2_with fail
            go_quiet (fail)
            go_wp2_with fail
            go_ret
            exact ⟨ret_bool (decide_eq_false HN.out).symm, below_drawn hbw _⟩
          · cases e2 : (f == g)
            · have HN : Hid (l ≠ k) := hide (HNE.out (by intro h; injection h with h1 h2; injection h2 with h2 h3; rw [h2, beq_self_eq_true] at e2; cases e2))
              go_wp2_with fail
              go_quiet (fail)
              go_wp2_with fail
              go_ret
              exact ⟨ret_bool (decide_eq_false HN.out).symm, below_drawn hbw _⟩
            · cases e3 : (t == s)
              · have HN : Hid (l ≠ k) := hide (HNE.out (by intro h; injection h with h1 h2; injection h2 with h2 h3; rw [h3, beq_self_eq_true] at e3; cases e3))
                go_wp2_with fail
                go_quiet (fail)
                go_wp2_with fail
                go_ret
                exact ⟨ret_bool (decide_eq_false HN.out).symm, below_drawn hbw _⟩
              · have HN : Hid (l.take (j + 1) = k.take (j + 1)) := by
                  show l.take (j + 1) = k.take (j + 1)
                  rw [HTL.out, HTK.out, HE.out, show a = b by simpa using e1, show f = g by simpa using e2, show t = s by simpa using e3]
                go_wp2_with fail
                go_quiet (fail)
                go_wp2_with fail
                go_roundw
                case rel => exact ⟨j + 1, by omega, by go_num, HN.out, below_drawn hbw _⟩
                case measure => simp [intOf]; omega
        · obtain rfl : j = l.length := by omega
          have HF : Hid (l = k) := sameC_all HL.out HE.out
          go_wp2_with fail
          go_ret
          exact ⟨ret_bool (decide_eq_true HF.out).symm, hbw⟩
  · have HF : Hid (l ≠ k) := fun h => hlen (by rw [h])
    have e0 : (l.length == k.length) = false := by rw [beq_eq_false_iff_ne]; exact hlen
    have e1 : ((l.length : Int) == (k.length : Int)) = false := by rw [beq_eq_false_iff_ne]; omega
    have e2 : ((l.length : Int) != (k.length : Int)) = true := by rw [bne_iff_ne]; omega
    clear hl hk
    go_enter Tryz.func28, Tryz.ntmps28
    go_wp2_with fail
    go_ret
    exact ⟨ret_bool (decide_eq_false HF.out).symm, start _⟩
end Go.Proofs.YtlmdceeeahnkcaaGreatDoor.S2
namespace Go.Proofs.YtlmdceeeahnkcaaGreatDoor.S2
open Go.RowKit Spn Cl

theorem spans_one (l : List C) (k : Nat) (h : k < l.length) (r : Int) (c : C) (hl : l[k] = c) : spansOf (l.take (k + 1)) r = spansOf (l.take k) r ++ (if okC c && decide (c.1 = r) then [c.2] else []) := by
  rw [List.take_succ_eq_append_getElem h, hl]
  unfold spansOf
  rw [List.filter_append, List.map_append]
  congr 1
  by_cases hc : (okC c && decide (c.1 = r)) = true
  · rw [if_pos hc]; simp [hc]
  · rw [if_neg hc]; simp [hc]
theorem room_yes (l : List C) (k : Nat) (h : k < l.length) (r : Int) (s : Sp) (hl : l[k] = (r, s)) (hok : okC (r, s) = true) : canon (spansOf (l.take (k + 1)) r) = addR (canon (spansOf (l.take k) r)) s := by
  rw [spans_one l k h r _ hl, hok]; simp only [Bool.true_and, decide_true, if_true]; exact canon_snoc _ _
theorem room_no (l : List C) (k : Nat) (h : k < l.length) (r : Int) (c : C) (hl : l[k] = c) (hno : c.1 ≠ r ∨ okC c = false) : canon (spansOf (l.take (k + 1)) r) = canon (spansOf (l.take k) r) := by
  rw [spans_one l k h r _ hl]
  have : (okC c && decide (c.1 = r)) = false := by
    rcases hno with h | h
    · rw [decide_eq_false h, Bool.and_false]
    · rw [h, Bool.false_and]
  rw [this]; simp

set_option maxRecDepth 100000 in
set_option maxHeartbeats 4000000 in
theorem R.room_any (A : Option Addr) (n c : Nat) (l : List C) (r : Int) (w : World) (h : RowC w A l) (he : n = l.length) (hn : l.length ≤ 400000) :
    Calls Tryz.prog 71 #[.slice A n c, .int .i64 r] w (Gives w (canon (spansOf l r))) := by
  subst he
  have HR := hide h
  clear h
  go_enter Tryz.func71, Tryz.ntmps71
  go_wp2_with fail
  go_loopw [5, 6] (fun v i wr => ∃ k : Nat, k ≤ l.length ∧ i = .int .i64 k ∧ Hid (Own wr w.heap.size v (canon (spansOf (l.take k) r))) ∧ Hid (Below w.heap.size w wr)) (fun _ i _ => l.length - (intOf i).toNat)
  case atStart => exact ⟨0, by omega, rfl, hide (own_nil _ _), hide (start _)⟩
  case round =>
    obtain ⟨k, hk, rfl, HO, HB⟩ := hrel
    by_cases hlt : k < l.length
    · obtain ⟨b, off, rfl, hb, hcl⟩ := HR.out (by intro h0; rw [h0] at hlt; exact absurd hlt (Nat.not_lt_zero _))
      obtain ⟨x1, x2, x3⟩ := hcl k hlt
      obtain ⟨m, hm⟩ : ∃ m, l[k] = m := ⟨_, rfl⟩
      have HY := hide (fun s h1 h2 => room_yes l k hlt r s h1 h2)
      have HNO := hide (fun h => room_no l k hlt r m hm h)
      rw [hm] at x1 x2 x3 HY
      obtain ⟨q, f, t⟩ := m
      have p1 : wr.cell? ⟨b, off + k * 3, none⟩ = some (.int .i64 q) := (HB.out.cell (p := ⟨b, _, none⟩) hb).trans x1
      have p2 : wr.cell? ⟨b, off + k * 3 + 1, none⟩ = some (.int .i64 f) := (HB.out.cell (p := ⟨b, _, none⟩) hb).trans x2
      have p3 : wr.cell? ⟨b, off + k * 3 + 2, none⟩ = some (.int .i64 t) := (HB.out.cell (p := ⟨b, _, none⟩) hb).trans x3
      have hi0 : (0 : Int) ≤ (k : Int) := by omega
      have hi1 : (k : Int) < (l.length : Int) := by omega
      clear hcl x1 x2 x3 hm
      by_cases hq : q = r
      · have e1 : (q == r) = true := by rw [beq_iff_eq]; exact hq
        cases hok : okC (q, (f, t))
        · have HN := hide (HNO.out (Or.inr hok))
          have HOK := hide hok
          clear hok HY HNO hq
          go_wp2_with fail
          refine (R.cIs_at q f t false _ HOK.out).mono ?_
          rintro e w1 ⟨rfl, hb1⟩
          have HO1 := hide (Own.keep HO.out hb1)
          have HB1 := hide (HB.out.trans (hb1.mono HB.out.size))
          clear hb1
          go_wp2_with fail
          go_roundw
          case rel => exact ⟨k + 1, by omega, by go_num, by rw [HN.out]; exact hide HO1.out, hide HB1.out⟩
          case measure => simp [intOf]; omega
        · have HN := hide (HY.out (f, t) (by rw [hq]) (by rw [← hq]; exact hok))
          have HOK := hide hok
          have hcl := canon_lenC (spansOf (l.take k) r)
          have hsl := spans_len (l.take k) r
          have htl := List.length_take_le k l
          have HNE := hide (canon_neat (spansOf (l.take k) r)).1
          clear hok HY HNO hq
          go_wp2_with fail
          refine (R.cIs_at q f t true _ HOK.out).mono ?_
          rintro e w1 ⟨rfl, hb1⟩
          have HO1 := hide (Own.keep HO.out hb1)
          have HB1 := hide (HB.out.trans (hb1.mono HB.out.size))
          replace p2 := cell_keep hb1 p2
          replace p3 := cell_keep hb1 p3
          clear hb1 p1
          go_wp2_with fail
          refine (R.add_any w.heap.size _ _ f t w1 HO1.out HB1.out.size HNE.out (by omega)).mono ?_
          rintro e w2 ⟨v2, rfl, ho2, hb2⟩
          have HO2 := hide ho2
          have HB2 := hide (HB1.out.trans (hb2.mono HB1.out.size))
          clear ho2 hb2
          go_wp2_with fail
          go_roundw
          case rel => exact ⟨k + 1, by omega, by go_num, by rw [HN.out]; exact hide HO2.out, hide HB2.out⟩
          case measure => simp [intOf]; omega
      · have e1 : (q == r) = false := by rw [beq_eq_false_iff_ne]; exact hq
        have HN := hide (HNO.out (Or.inl hq))
        clear HY HNO hq
        go_wp2_with fail
        go_roundw
        case rel => exact ⟨k + 1, by omega, by go_num, by rw [HN.out]; exact hide HO.out, hide HB.out⟩
        case measure => simp [intOf]; omega
    · obtain rfl : k = l.length := by omega
      rw [List.take_length] at HO
      go_wp2_with fail
      go_ret
      exact ⟨_, rfl, HO.out, HB.out⟩

set_option maxRecDepth 100000 in
set_option maxHeartbeats 2000000 in
theorem R.rclaims_any (r : Int) (A : Option Addr) (n c : Nat) (l : List Sp) (w : World) (h : Row w A l) (he : n = l.length) (hn : l.length ≤ 1000000) :
    Calls Tryz.prog 70 #[.int .i64 r, .slice A n c] w (GivesC w (tag r l)) := by
  subst he
  have HR := hide h
  clear h
  go_enter Tryz.func70, Tryz.ntmps70
  go_wp2_with fail
  go_loopw [5, 6] (fun v i wr => ∃ k : Nat, k ≤ l.length ∧ i = .int .i64 k ∧ Hid (OwnC wr w.heap.size v (tag r (l.take k))) ∧ Hid (Below w.heap.size w wr)) (fun _ i _ => l.length - (intOf i).toNat)
  case atStart => exact ⟨0, by omega, rfl, hide (ownC_nil _ _), hide (start _)⟩
  case round =>
    obtain ⟨k, hk, rfl, HO, HB⟩ := hrel
    by_cases hlt : k < l.length
    · obtain ⟨b, off, rfl, hb, hcl⟩ := HR.out (by intro h0; rw [h0] at hlt; exact absurd hlt (Nat.not_lt_zero _))
      obtain ⟨m, hm⟩ : ∃ m, l[k] = m := ⟨_, rfl⟩
      obtain ⟨x, y⟩ := m
      have p1 : wr.cell? ⟨b, off + k * 2, none⟩ = some (.int .i64 x) := by have := (hcl k hlt).1; rw [hm] at this; exact (HB.out.cell (p := ⟨b, _, none⟩) hb).trans this
      have p2 : wr.cell? ⟨b, off + k * 2 + 1, none⟩ = some (.int .i64 y) := by have := (hcl k hlt).2; rw [hm] at this; exact (HB.out.cell (p := ⟨b, _, none⟩) hb).trans this
      have hj0 : (0 : Int) ≤ (k : Int) := by omega
      have hj1 : (k : Int) < (l.length : Int) := by omega
      have HTK := hide (tag_take r l k hlt)
      rw [hm] at HTK
      have hln : (tag r (l.take k)).length ≤ 1000000 := by rw [tag_len]; have := List.length_take_le k l; omega
      have hown := HO.out
      have hbs := HB.out.size
      generalize tag r (l.take k) = S at *
      clear hcl hm
      go_wp2_with (at_builtin; refine wp_oneC (l := S) (p := (r, (x, y))) rfl _ _ rfl rfl rfl rfl hown hbs hln ?_; intro v3 w3 hown3 hb3)
      have HO3 := hide hown3
      have HB3 := hide (HB.out.trans hb3)
      clear hown hown3 hb3 hbs hln
      go_wp2_with fail
      go_roundw
      case rel => exact ⟨k + 1, by omega, by go_num, by rw [HTK.out]; exact hide HO3.out, hide HB3.out⟩
      case measure => simp [intOf]; omega
    · obtain rfl : k = l.length := by omega
      rw [List.take_length] at HO
      go_wp2_with fail
      go_ret
      exact ⟨_, rfl, HO.out, HB.out⟩

theorem neatF_len' (l : List C) (r : Nat) : (neatF l r).length ≤ l.length := Nat.le_trans (canon_lenC _) (spans_len l r)
theorem outK_le' (f : Nat → List Sp) (N : Nat) (h : ∀ r, (f r).length ≤ N) : ∀ k, (outK f k).length ≤ k * N
  | 0 => by simp [outK]
  | k + 1 => by
    have := outK_le' f N h k
    have h2 := h k
    rw [outK_succ, List.length_append, tag_len, Nat.succ_mul]; omega
set_option maxRecDepth 100000 in
set_option maxHeartbeats 2000000 in
theorem R.Neat_any (A : Option Addr) (n c : Nat) (l : List C) (w : World) (h : RowC w A l) (he : n = l.length) (hn : l.length ≤ 100000) :
    Calls Tryz.prog 52 #[.slice A n c] w (GivesC w (neatC l)) := by
  subst he
  have HR := hide h
  clear h
  go_enter Tryz.func52, Tryz.ntmps52
  go_wp2_with fail
  go_loopw [3, 4] (fun v i wr => ∃ k : Nat, k ≤ 8 ∧ i = .int .i64 k ∧ Hid (OwnC wr w.heap.size v (outK (neatF l) k)) ∧ Hid (Below w.heap.size w wr)) (fun _ i _ => 8 - (intOf i).toNat)
  case atStart => exact ⟨0, by omega, rfl, hide (ownC_nil _ _), hide (start _)⟩
  case round =>
    obtain ⟨k, hk, rfl, HO, HB⟩ := hrel
    by_cases hlt : k < 8
    · have hj0 : (0 : Int) ≤ (k : Int) := by omega
      have hj1 : (k : Int) < 8 := by omega
      have HTK := hide (outK_succ (neatF l) k)
      have HLK : Hid ((outK (neatF l) k).length ≤ 1000000) := hide (by have := outK_le' (neatF l) l.length (neatF_len' l) k; have : k * l.length ≤ 8 * l.length := Nat.mul_le_mul_right _ hk; omega)
      have HNL := hide (neatF_len' l k)
      go_wp2_with fail
      refine (R.room_any A _ c l (k : Int) wr (HR.out.keep HB.out) rfl (by omega)).mono ?_
      rintro e w1 ⟨v1, rfl, ho1, hb1⟩
      obtain ⟨A1, c1, rfl, hr1⟩ := Own.row ho1
      have HR1 : Hid (Row w1 A1 (neatF l k)) := hide hr1
      have HO1 := hide (OwnC.keep HO.out hb1)
      have HB1 := hide (HB.out.trans (hb1.mono HB.out.size))
      clear ho1 hb1 hr1
      go_wp2_with fail
      refine (R.rclaims_any (k : Int) A1 _ c1 (neatF l k) w1 HR1.out rfl (by have := HNL.out; omega)).mono ?_
      rintro e w2 ⟨v2, rfl, ho2, hb2⟩
      have HT := hide ho2
      have hown := OwnC.keep HO1.out hb2
      have hbz := HB1.out.trans (hb2.mono HB1.out.size)
      have hbs := hbz.size
      have hln := HLK.out
      have hl2 : (tag (k : Int) (neatF l k)).length ≤ 1000000 := by rw [tag_len]; have := HNL.out; omega
      generalize tag (k : Int) (neatF l k) = U at *
      generalize outK (neatF l) k = S at *
      clear ho2 hb2
      go_wp2_with (at_builtin; refine wp_ownC (l := S) (k := U) rfl _ _ rfl rfl rfl HT.out hown hbs hln hl2 ?_; intro v3 w3 hown3 hb3)
      have HO3 := hide hown3
      have HB3 := hide (hbz.trans hb3)
      clear hown hown3 hb3 hbs hln hbz hl2
      go_wp2_with fail
      go_roundw
      case rel => exact ⟨k + 1, by omega, by go_num, by rw [HTK.out]; exact hide HO3.out, hide HB3.out⟩
      case measure => simp [intOf]; omega
    · obtain rfl : k = 8 := by omega
      go_wp2_with fail
      go_ret
      exact ⟨_, rfl, HO.out, HB.out⟩
end Go.Proofs.YtlmdceeeahnkcaaGreatDoor.S2

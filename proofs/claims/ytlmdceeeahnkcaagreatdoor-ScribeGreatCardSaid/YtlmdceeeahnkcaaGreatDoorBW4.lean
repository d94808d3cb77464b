/- RuD; RuE of the recipes, what is needed of them. -/
import Derived.Test.YtlmdceeeahnkcaaGreatDoorBW3
import Derived.Test.YtlmdceeeahnkcaaGreatDoorBRuC
namespace Go.Proofs.YtlmdceeeahnkcaaGreatDoor
open Go.RowKit Rul Go.Sort

theorem take_ne {α : Type} {l k : List α} {i : Nat} (hi : i < l.length) (hk : i < k.length) (h : l[i] ≠ k[i]) : l ≠ k := by
  rintro rfl; exact h rfl
theorem same_all {α : Type} {l k : List α} (hl : l.length = k.length) (h : l.take l.length = k.take l.length) : l = k := by
  rw [List.take_length, hl, List.take_length] at h; exact h

set_option maxRecDepth 100000 in
set_option maxHeartbeats 1000000 in
theorem eqI_any (A B : Option Addr) (n m c d : Nat) (l k : List Int) (w : World) (hl : RowI w A l) (hk : RowI w B k) (hn : n = l.length) (hm : m = k.length) (hsz : l.length ≤ 1000000) (hsk : k.length ≤ 1000000) :
    Calls Tryz.prog 145 #[.slice A n c, .slice B m d] w (Ans w (.bool (decide (l = k)))) := by
  subst hn hm
  by_cases hlen : l.length = k.length
  · by_cases hnil : l = []
    · subst hnil
      have hkn : k = [] := List.eq_nil_of_length_eq_zero hlen.symm
      subst hkn
      go_enter Tryz.func145, Tryz.ntmps145
      go_wp2_with fail
      refine wp_loop_rounds 1 ?_
      rw [rounds_succ]
      go_wp2_with fail
      go_ret
      exact ⟨rfl, start _⟩
    · obtain ⟨b1, o1, rfl, hb1, hc1⟩ := hl hnil
      obtain ⟨b2, o2, rfl, hb2, hc2⟩ := hk (by rintro rfl; exact hnil (List.eq_nil_of_length_eq_zero hlen))
      have HC1 := hide hc1
      have HC2 := hide hc2
      have HL := hide hlen
      rw [← hlen]
      clear hl hk hc1 hc2 hlen hnil
      go_enter Tryz.func145, Tryz.ntmps145
      go_wp2_with fail
      go_loopw [13] (fun i wr => ∃ j : Nat, j ≤ l.length ∧ i = .int .i64 j ∧ l.take j = k.take j ∧ Below w.heap.size w wr) (fun i _ => l.length - (intOf i).toNat)
      case atStart => exact ⟨0, Nat.zero_le _, rfl, rfl, start _⟩
      case round =>
        obtain ⟨j, hj, rfl, heq, hbw⟩ := hrel
        have HE := hide heq
        clear heq
        by_cases hlt : j < l.length
        · have hlk : j < k.length := by have := HL.out; omega
          have p1 : wr.cell? ⟨b1, o1 + j, none⟩ = some (.int .i64 l[j]) := (hbw.cell (p := ⟨b1, _, none⟩) hb1).trans (HC1.out j hlt)
          have p3 : wr.cell? ⟨b2, o2 + j, none⟩ = some (.int .i64 k[j]) := (hbw.cell (p := ⟨b2, _, none⟩) hb2).trans (HC2.out j hlk)
          have hi0 : (0 : Int) ≤ (j : Int) := by omega
          have hi1 : (j : Int) < (l.length : Int) := by omega
          cases e1 : (l[j] == k[j])
          · have HN : Hid (l ≠ k) := by
              show l ≠ k
              refine take_ne hlt hlk fun h => ?_
              rw [h, beq_self_eq_true] at e1; cases e1
            have e9 : (l[j] != k[j]) = true := by rw [bne, e1]; rfl
            go_wp2_with fail
            go_quiet (fail)
            go_wp2_with fail
            go_ret
            exact ⟨ret_bool (decide_eq_false HN.out).symm, below_drawn hbw _⟩
          · have HN : Hid (l.take (j + 1) = k.take (j + 1)) := by
              show l.take (j + 1) = k.take (j + 1)
              rw [List.take_succ_eq_append_getElem hlt, List.take_succ_eq_append_getElem hlk, HE.out]
              congr 2
              exact by simpa using e1
            have e9 : (l[j] != k[j]) = false := by rw [bne, e1]; rfl
            go_wp2_with fail
            go_quiet (fail)
            go_wp2_with fail
            go_roundw
            case rel => exact ⟨j + 1, by omega, by go_num, HN.out, below_drawn hbw _⟩
            case measure => simp [intOf]; omega
        · obtain rfl : j = l.length := by omega
          have HF : Hid (l = k) := same_all HL.out HE.out
          go_wp2_with fail
          go_ret
          exact ⟨ret_bool (decide_eq_true HF.out).symm, hbw⟩
  · have HF : Hid (l ≠ k) := fun h => hlen (by rw [h])
    have e0 : (l.length == k.length) = false := by rw [beq_eq_false_iff_ne]; exact hlen
    have e1 : ((l.length : Int) == (k.length : Int)) = false := by rw [beq_eq_false_iff_ne]; omega
    have e2 : ((l.length : Int) != (k.length : Int)) = true := by rw [bne_iff_ne]; omega
    clear hl hk
    go_enter Tryz.func145, Tryz.ntmps145
    go_wp2_with fail
    go_ret
    exact ⟨ret_bool (decide_eq_false HF.out).symm, start _⟩

set_option maxRecDepth 100000 in
set_option maxHeartbeats 1000000 in
theorem eqD_any (A B : Option Addr) (n m c d : Nat) (l k : List Wd) (w : World) (hl : RowD w A l) (hk : RowD w B k) (hn : n = l.length) (hm : m = k.length) (hsz : l.length ≤ 1000000) (hsk : k.length ≤ 1000000) :
    Calls Tryz.prog 187 #[.slice A n c, .slice B m d] w (Ans w (.bool (decide (l = k)))) := by
  subst hn hm
  by_cases hlen : l.length = k.length
  · by_cases hnil : l = []
    · subst hnil
      have hkn : k = [] := List.eq_nil_of_length_eq_zero hlen.symm
      subst hkn
      go_enter Tryz.func187, Tryz.ntmps187
      go_wp2_with fail
      refine wp_loop_rounds 1 ?_
      rw [rounds_succ]
      go_wp2_with fail
      go_ret
      exact ⟨rfl, start _⟩
    · obtain ⟨b1, o1, rfl, hb1, hc1⟩ := hl hnil
      obtain ⟨b2, o2, rfl, hb2, hc2⟩ := hk (by rintro rfl; exact hnil (List.eq_nil_of_length_eq_zero hlen))
      have HC1 := hide hc1
      have HC2 := hide hc2
      have HL := hide hlen
      rw [← hlen]
      clear hl hk hc1 hc2 hlen hnil
      go_enter Tryz.func187, Tryz.ntmps187
      go_wp2_with fail
      go_loopw [13] (fun i wr => ∃ j : Nat, j ≤ l.length ∧ i = .int .i64 j ∧ l.take j = k.take j ∧ Below w.heap.size w wr) (fun i _ => l.length - (intOf i).toNat)
      case atStart => exact ⟨0, Nat.zero_le _, rfl, rfl, start _⟩
      case round =>
        obtain ⟨j, hj, rfl, heq, hbw⟩ := hrel
        have HE := hide heq
        clear heq
        by_cases hlt : j < l.length
        · have hlk : j < k.length := by have := HL.out; omega
          have p1 : wr.cell? ⟨b1, o1 + j * 2, none⟩ = some (.int .i64 l[j].1) := (hbw.cell (p := ⟨b1, _, none⟩) hb1).trans (HC1.out j hlt).1
          have p2 : wr.cell? ⟨b1, o1 + j * 2 + 1, none⟩ = some (.int .i64 l[j].2) := (hbw.cell (p := ⟨b1, _, none⟩) hb1).trans (HC1.out j hlt).2
          have p3 : wr.cell? ⟨b2, o2 + j * 2, none⟩ = some (.int .i64 k[j].1) := (hbw.cell (p := ⟨b2, _, none⟩) hb2).trans (HC2.out j hlk).1
          have p4 : wr.cell? ⟨b2, o2 + j * 2 + 1, none⟩ = some (.int .i64 k[j].2) := (hbw.cell (p := ⟨b2, _, none⟩) hb2).trans (HC2.out j hlk).2
          have hi0 : (0 : Int) ≤ (j : Int) := by omega
          have hi1 : (j : Int) < (l.length : Int) := by omega
          cases e1 : (l[j].1 == k[j].1)
          · have HN : Hid (l ≠ k) := by
              show l ≠ k
              refine take_ne hlt hlk fun h => ?_
              rw [h, beq_self_eq_true] at e1; cases e1
            have e9 : (l[j].1 != k[j].1) = true := by rw [bne, e1]; rfl
            go_wp2_with fail
            go_quiet (fail)
            go_wp2_with fail
            go_ret
            exact ⟨ret_bool (decide_eq_false HN.out).symm, below_drawn hbw _⟩
          · have e8 : (l[j].1 != k[j].1) = false := by rw [bne, e1]; rfl
            cases e2 : (l[j].2 == k[j].2)
            · have HN : Hid (l ≠ k) := by
                show l ≠ k
                refine take_ne hlt hlk fun h => ?_
                rw [h, beq_self_eq_true] at e2; cases e2
              have e9 : (l[j].2 != k[j].2) = true := by rw [bne, e2]; rfl
              go_wp2_with fail
              go_quiet (fail)
              go_wp2_with fail
              go_ret
              exact ⟨ret_bool (decide_eq_false HN.out).symm, below_drawn hbw _⟩
            · have HN : Hid (l.take (j + 1) = k.take (j + 1)) := by
                show l.take (j + 1) = k.take (j + 1)
                rw [List.take_succ_eq_append_getElem hlt, List.take_succ_eq_append_getElem hlk, HE.out]
                congr 2
                exact Prod.ext (by simpa using e1) (by simpa using e2)
              have e9 : (l[j].2 != k[j].2) = false := by rw [bne, e2]; rfl
              go_wp2_with fail
              go_quiet (fail)
              go_wp2_with fail
              go_roundw
              case rel => exact ⟨j + 1, by omega, by go_num, HN.out, below_drawn hbw _⟩
              case measure => simp [intOf]; omega
        · obtain rfl : j = l.length := by omega
          have HF : Hid (l = k) := same_all HL.out HE.out
          go_wp2_with fail
          go_ret
          exact ⟨ret_bool (decide_eq_true HF.out).symm, hbw⟩
  · have HF : Hid (l ≠ k) := fun h => hlen (by rw [h])
    have e0 : (l.length == k.length) = false := by rw [beq_eq_false_iff_ne]; exact hlen
    have e1 : ((l.length : Int) == (k.length : Int)) = false := by rw [beq_eq_false_iff_ne]; omega
    have e2 : ((l.length : Int) != (k.length : Int)) = true := by rw [bne_iff_ne]; omega
    clear hl hk
    go_enter Tryz.func187, Tryz.ntmps187
    go_wp2_with fail
    go_ret
    exact ⟨ret_bool (decide_eq_false HF.out).symm, start _⟩

set_option maxRecDepth 100000 in
set_option maxHeartbeats 1000000 in
theorem eqR_any (A B : Option Addr) (n m c d : Nat) (l k : List Int) (w : World) (hl : RowI w A l) (hk : RowI w B k) (hn : n = l.length) (hm : m = k.length) (hsz : l.length ≤ 1000000) (hsk : k.length ≤ 1000000) :
    Calls Tryz.prog 66 #[.slice A n c, .slice B m d] w (Ans w (.bool (decide (l = k)))) := by
  subst hn hm
  by_cases hlen : l.length = k.length
  · by_cases hnil : l = []
    · subst hnil
      have hkn : k = [] := List.eq_nil_of_length_eq_zero hlen.symm
      subst hkn
      go_enter Tryz.func66, Tryz.ntmps66
      go_wp2_with fail
      refine wp_loop_rounds 1 ?_
      rw [rounds_succ]
      go_wp2_with fail
      go_ret
      exact ⟨rfl, start _⟩
    · obtain ⟨b1, o1, rfl, hb1, hc1⟩ := hl hnil
      obtain ⟨b2, o2, rfl, hb2, hc2⟩ := hk (by rintro rfl; exact hnil (List.eq_nil_of_length_eq_zero hlen))
      have HC1 := hide hc1
      have HC2 := hide hc2
      have HL := hide hlen
      rw [← hlen]
      clear hl hk hc1 hc2 hlen hnil
      go_enter Tryz.func66, Tryz.ntmps66
      go_wp2_with fail
      go_loopw [5] (fun i wr => ∃ j : Nat, j ≤ l.length ∧ i = .int .i64 j ∧ l.take j = k.take j ∧ Below w.heap.size w wr) (fun i _ => l.length - (intOf i).toNat)
      case atStart => exact ⟨0, Nat.zero_le _, rfl, rfl, start _⟩
      case round =>
        obtain ⟨j, hj, rfl, heq, hbw⟩ := hrel
        have HE := hide heq
        clear heq
        by_cases hlt : j < l.length
        · have hlk : j < k.length := by have := HL.out; omega
          have p1 : wr.cell? ⟨b1, o1 + j, none⟩ = some (.int .i64 l[j]) := (hbw.cell (p := ⟨b1, _, none⟩) hb1).trans (HC1.out j hlt)
          have p3 : wr.cell? ⟨b2, o2 + j, none⟩ = some (.int .i64 k[j]) := (hbw.cell (p := ⟨b2, _, none⟩) hb2).trans (HC2.out j hlk)
          have hi0 : (0 : Int) ≤ (j : Int) := by omega
          have hi1 : (j : Int) < (l.length : Int) := by omega
          cases e1 : (l[j] == k[j])
          · have HN : Hid (l ≠ k) := by
              show l ≠ k
              refine take_ne hlt hlk fun h => ?_
              rw [h, beq_self_eq_true] at e1; cases e1
            have e9 : (l[j] != k[j]) = true := by rw [bne, e1]; rfl
            go_wp2_with fail
            go_quiet (fail)
            go_wp2_with fail
            go_ret
            exact ⟨ret_bool (decide_eq_false HN.out).symm, below_drawn hbw _⟩
          · have HN : Hid (l.take (j + 1) = k.take (j + 1)) := by
              show l.take (j + 1) = k.take (j + 1)
              rw [List.take_succ_eq_append_getElem hlt, List.take_succ_eq_append_getElem hlk, HE.out]
              congr 2
              exact by simpa using e1
            have e9 : (l[j] != k[j]) = false := by rw [bne, e1]; rfl
            go_wp2_with fail
            go_quiet (fail)
            go_wp2_with fail
            go_roundw
            case rel => exact ⟨j + 1, by omega, by go_num, HN.out, below_drawn hbw _⟩
            case measure => simp [intOf]; omega
        · obtain rfl : j = l.length := by omega
          have HF : Hid (l = k) := same_all HL.out HE.out
          go_wp2_with fail
          go_ret
          exact ⟨ret_bool (decide_eq_true HF.out).symm, hbw⟩
  · have HF : Hid (l ≠ k) := fun h => hlen (by rw [h])
    have e0 : (l.length == k.length) = false := by rw [beq_eq_false_iff_ne]; exact hlen
    have e1 : ((l.length : Int) == (k.length : Int)) = false := by rw [beq_eq_false_iff_ne]; omega
    have e2 : ((l.length : Int) != (k.length : Int)) = true := by rw [bne_iff_ne]; omega
    clear hl hk
    go_enter Tryz.func66, Tryz.ntmps66
    go_wp2_with fail
    go_ret
    exact ⟨ret_bool (decide_eq_false HF.out).symm, start _⟩

end Go.Proofs.YtlmdceeeahnkcaaGreatDoor
namespace Go.Proofs.YtlmdceeeahnkcaaGreatDoor
open Go.RowKit Rul Go.Sort

/-- the lists of a rule in memory. -/
structure Lies (w : World) (D : Option Addr) (dn : Nat) (M : Option Addr) (mn : Nat) (Y : Option Addr) (yn : Nat) (ds : List Wd) (ms ys : List Int) : Prop where
  d : RowD w D ds
  dn : dn = ds.length
  dl : ds.length ≤ 10000
  m : RowI w M ms
  mn : mn = ms.length
  ml : ms.length ≤ 10000
  y : RowI w Y ys
  yn : yn = ys.length
  yl : ys.length ≤ 10000
theorem Lies.keep {w w' : World} {D M Y : Option Addr} {dn mn yn : Nat} {ds : List Wd} {ms ys : List Int} (h : Lies w D dn M mn Y yn ds ms ys) (hb : Below w.heap.size w w') : Lies w' D dn M mn Y yn ds ms ys :=
  ⟨h.d.keep hb, h.dn, h.dl, h.m.keep hb, h.mn, h.ml, h.y.keep hb, h.yn, h.yl⟩

set_option maxHeartbeats 400000 in
theorem partsOf_any (fr ev ct un : Int) (D M Y : Option Addr) (dn dc mn mc yn yc : Nat) (w : World) :
    Calls Tryz.prog 141 #[.agg #[.int .i64 fr, .int .i64 ev, .int .i64 ct, .int .i64 un, .slice D dn dc, .slice M mn mc, .slice Y yn yc]] w (Ans w (.agg #[.int .i64 fr, .int .i64 ev, .int .i64 ct, .int .i64 un, .slice D dn dc, .slice M mn mc, .slice Y yn yc])) := by
  go_enter Tryz.func141, Tryz.ntmps141
  go_wp2_with fail
  exact bodyPost_ret (v := .agg #[.int .i64 fr, .int .i64 ev, .int .i64 ct, .int .i64 un, .slice D dn dc, .slice M mn mc, .slice Y yn yc]) (by simp [results, Tryz.results141, go_sem]) rfl ⟨rfl, more (more (start _) _) _⟩
set_option maxHeartbeats 400000 in
theorem once_any (w : World) :
    Calls Tryz.prog 110 #[] w (Ans w (.agg #[.int .i64 0, .int .i64 0, .int .i64 0, .int .i64 (-1), .slice none 0 0, .slice none 0 0, .slice none 0 0])) := by
  go_enter Tryz.func110, Tryz.ntmps110
  go_wp2_with fail
  exact bodyPost_ret (v := .agg #[.int .i64 0, .int .i64 0, .int .i64 0, .int .i64 (-1), .slice none 0 0, .slice none 0 0, .slice none 0 0]) (by simp [results, Tryz.results110, go_sem]) rfl ⟨rfl, more (start _) _⟩

def rngB (fr ev ct un : Int) : Bool := btw 1 fr 4 && (btw 1 ev 100 && (btw 0 ct 40 && (btw (-1) un 52595999 && ((ct == 0) || (un == -1)))))
set_option maxHeartbeats 1000000 in
theorem inRange_any (fr ev ct un : Int) (w : World) :
    Calls Tryz.prog 163 #[.agg #[.int .i64 fr, .int .i64 ev, .int .i64 ct, .int .i64 un]] w (Ans w (.bool (rngB fr ev ct un))) := by
  cases h1 : btw 1 fr 4
  · have e := hide (show rngB fr ev ct un = false by unfold rngB; simp only [h1]; rfl)
    have H1 := hide h1
    clear h1
    go_enter Tryz.func163, Tryz.ntmps163
    go_wp2_with fail
    refine (btw_at _ _ _ _ _ H1.out).mono ?_
    rintro e w' ⟨rfl, rfl⟩
    go_wp2_with fail
    go_ret
    exact ⟨ret_bool (by rw [e.out]), more (start _) _⟩
  · cases h2 : btw 1 ev 100
    · have e := hide (show rngB fr ev ct un = false by unfold rngB; simp only [h1, h2]; rfl)
      have H1 := hide h1
      have H2 := hide h2
      clear h1 h2
      go_enter Tryz.func163, Tryz.ntmps163
      go_wp2_with fail
      refine (btw_at _ _ _ _ _ H1.out).mono ?_
      rintro e w' ⟨rfl, rfl⟩
      go_wp2_with fail
      refine (btw_at _ _ _ _ _ H2.out).mono ?_
      rintro e w' ⟨rfl, rfl⟩
      go_wp2_with fail
      go_ret
      exact ⟨ret_bool (by rw [e.out]), more (start _) _⟩
    · cases h3 : btw 0 ct 40
      · have e := hide (show rngB fr ev ct un = false by unfold rngB; simp only [h1, h2, h3]; rfl)
        have H1 := hide h1
        have H2 := hide h2
        have H3 := hide h3
        clear h1 h2 h3
        go_enter Tryz.func163, Tryz.ntmps163
        go_wp2_with fail
        refine (btw_at _ _ _ _ _ H1.out).mono ?_
        rintro e w' ⟨rfl, rfl⟩
        go_wp2_with fail
        refine (btw_at _ _ _ _ _ H2.out).mono ?_
        rintro e w' ⟨rfl, rfl⟩
        go_wp2_with fail
        refine (btw_at _ _ _ _ _ H3.out).mono ?_
        rintro e w' ⟨rfl, rfl⟩
        go_wp2_with fail
        go_ret
        exact ⟨ret_bool (by rw [e.out]), more (start _) _⟩
      · cases h4 : btw (-1) un 52595999
        · have e := hide (show rngB fr ev ct un = false by unfold rngB; simp only [h1, h2, h3, h4]; rfl)
          have H1 := hide h1
          have H2 := hide h2
          have H3 := hide h3
          have H4 := hide h4
          clear h1 h2 h3 h4
          go_enter Tryz.func163, Tryz.ntmps163
          go_wp2_with fail
          refine (btw_at _ _ _ _ _ H1.out).mono ?_
          rintro e w' ⟨rfl, rfl⟩
          go_wp2_with fail
          refine (btw_at _ _ _ _ _ H2.out).mono ?_
          rintro e w' ⟨rfl, rfl⟩
          go_wp2_with fail
          refine (btw_at _ _ _ _ _ H3.out).mono ?_
          rintro e w' ⟨rfl, rfl⟩
          go_wp2_with fail
          refine (btw_at _ _ _ _ _ H4.out).mono ?_
          rintro e w' ⟨rfl, rfl⟩
          go_wp2_with fail
          go_ret
          exact ⟨ret_bool (by rw [e.out]), more (start _) _⟩
        · cases h5 : (ct == 0)
          · have e := hide (show rngB fr ev ct un = (un == -1) by unfold rngB; simp only [h1, h2, h3, h4, h5]; rfl)
            have H1 := hide h1
            have H2 := hide h2
            have H3 := hide h3
            have H4 := hide h4
            clear h1 h2 h3 h4
            go_enter Tryz.func163, Tryz.ntmps163
            go_wp2_with fail
            refine (btw_at _ _ _ _ _ H1.out).mono ?_
            rintro e w' ⟨rfl, rfl⟩
            go_wp2_with fail
            refine (btw_at _ _ _ _ _ H2.out).mono ?_
            rintro e w' ⟨rfl, rfl⟩
            go_wp2_with fail
            refine (btw_at _ _ _ _ _ H3.out).mono ?_
            rintro e w' ⟨rfl, rfl⟩
            go_wp2_with fail
            refine (btw_at _ _ _ _ _ H4.out).mono ?_
            rintro e w' ⟨rfl, rfl⟩
            go_wp2_with fail
            go_ret
            exact ⟨ret_bool (by rw [e.out]), more (start _) _⟩
          · have e := hide (show rngB fr ev ct un = true by unfold rngB; simp only [h1, h2, h3, h4, h5]; rfl)
            have H1 := hide h1
            have H2 := hide h2
            have H3 := hide h3
            have H4 := hide h4
            clear h1 h2 h3 h4
            go_enter Tryz.func163, Tryz.ntmps163
            go_wp2_with fail
            refine (btw_at _ _ _ _ _ H1.out).mono ?_
            rintro e w' ⟨rfl, rfl⟩
            go_wp2_with fail
            refine (btw_at _ _ _ _ _ H2.out).mono ?_
            rintro e w' ⟨rfl, rfl⟩
            go_wp2_with fail
            refine (btw_at _ _ _ _ _ H3.out).mono ?_
            rintro e w' ⟨rfl, rfl⟩
            go_wp2_with fail
            refine (btw_at _ _ _ _ _ H4.out).mono ?_
            rintro e w' ⟨rfl, rfl⟩
            go_wp2_with fail
            go_ret
            exact ⟨ret_bool (by rw [e.out]), more (start _) _⟩

set_option maxHeartbeats 400000 in
theorem hasPos_any (D M Y : Option Addr) (dn dc mn mc yn yc : Nat) (ds : List Wd) (w : World) (h : RowD w D ds) (hn : dn = ds.length) (hl : ds.length ≤ 10000) :
    Calls Tryz.prog 186 #[.agg #[.slice D dn dc, .slice M mn mc, .slice Y yn yc]] w (Ans w (.bool (ds.any posB))) := by
  have hbx := more (start w) (.cells #[.slice D dn dc, .slice M mn mc, .slice Y yn yc] 178)
  have HL := hide (h.keep hbx)
  have HN := hide hn
  clear h hn
  go_enter Tryz.func186, Tryz.ntmps186
  go_wp2_with fail
  refine (hasPo_any D dn dc ds _ HL.out HN.out hl).mono ?_
  rintro e w1 ⟨rfl, hb1⟩
  have HB := hide (andthen hbx hb1)
  clear hbx hb1
  go_wp2_with fail
  go_ret
  exact ⟨rfl, HB.out⟩

def welB (ds : List Wd) (ms ys : List Int) : Bool := listB wdOk wdLt (0, 0) ds && (listB mdOk inLt 0 ms && listB moOk inLt 0 ys)
set_option maxHeartbeats 1000000 in
theorem well_any (D M Y : Option Addr) (dn dc mn mc yn yc : Nat) (ds : List Wd) (ms ys : List Int) (w : World) (h : Lies w D dn M mn Y yn ds ms ys) :
    Calls Tryz.prog 164 #[.agg #[.slice D dn dc, .slice M mn mc, .slice Y yn yc]] w (Ans w (.bool (welB ds ms ys))) := by
  have HBX := hide (more (start w) (.cells #[.slice D dn dc, .slice M mn mc, .slice Y yn yc] 178))
  have s1 : (w.alloc (.cells #[.slice D dn dc, .slice M mn mc, .slice Y yn yc] 178)).cell? ⟨w.heap.size, 1, none⟩ = some (.slice M mn mc) := by rw [World.cell?_alloc_at _ _ _ _ rfl]; rfl
  have s2 : (w.alloc (.cells #[.slice D dn dc, .slice M mn mc, .slice Y yn yc] 178)).cell? ⟨w.heap.size, 2, none⟩ = some (.slice Y yn yc) := by rw [World.cell?_alloc_at _ _ _ _ rfl]; rfl
  have HL := hide (h.keep HBX.out)
  clear h
  cases h1 : listB wdOk wdLt (0, 0) ds
  · have e := hide (show welB ds ms ys = false by unfold welB; simp only [h1]; rfl)
    have H1 := hide h1
    clear h1
    go_enter Tryz.func164, Tryz.ntmps164
    go_wp2_with fail
    refine (ans_is (lstWd_any D dn dc ds _ HL.out.d HL.out.dn HL.out.dl) H1.out).mono ?_
    rintro e w1 ⟨rfl, hb1⟩
    replace HBX := hide (andthen HBX.out hb1)
    clear hb1
    clear s1 s2
    go_wp2_with fail
    go_ret
    exact ⟨ret_bool (by rw [e.out]), HBX.out⟩
  · cases h2 : listB mdOk inLt 0 ms
    · have e := hide (show welB ds ms ys = false by unfold welB; simp only [h1, h2]; rfl)
      have H1 := hide h1
      have H2 := hide h2
      clear h1 h2
      go_enter Tryz.func164, Tryz.ntmps164
      go_wp2_with fail
      refine (ans_is (lstWd_any D dn dc ds _ HL.out.d HL.out.dn HL.out.dl) H1.out).mono ?_
      rintro e w1 ⟨rfl, hb1⟩
      replace HBX := hide (andthen HBX.out hb1)
      replace HL := hide (HL.out.keep hb1)
      replace s1 := cell_keep hb1 s1
      replace s2 := cell_keep hb1 s2
      clear hb1
      go_wp2_with fail
      refine (ans_is (lstMd_any M mn mc ms _ HL.out.m HL.out.mn HL.out.ml) H2.out).mono ?_
      rintro e w1 ⟨rfl, hb1⟩
      replace HBX := hide (andthen HBX.out hb1)
      clear hb1
      clear s1 s2
      go_wp2_with fail
      go_ret
      exact ⟨ret_bool (by rw [e.out]), HBX.out⟩
    · have e := hide (show welB ds ms ys = listB moOk inLt 0 ys by unfold welB; simp only [h1, h2]; rfl)
      have H1 := hide h1
      have H2 := hide h2
      clear h1 h2
      go_enter Tryz.func164, Tryz.ntmps164
      go_wp2_with fail
      refine (ans_is (lstWd_any D dn dc ds _ HL.out.d HL.out.dn HL.out.dl) H1.out).mono ?_
      rintro e w1 ⟨rfl, hb1⟩
      replace HBX := hide (andthen HBX.out hb1)
      replace HL := hide (HL.out.keep hb1)
      replace s1 := cell_keep hb1 s1
      replace s2 := cell_keep hb1 s2
      clear hb1
      go_wp2_with fail
      refine (ans_is (lstMd_any M mn mc ms _ HL.out.m HL.out.mn HL.out.ml) H2.out).mono ?_
      rintro e w1 ⟨rfl, hb1⟩
      replace HBX := hide (andthen HBX.out hb1)
      replace HL := hide (HL.out.keep hb1)
      replace s1 := cell_keep hb1 s1
      replace s2 := cell_keep hb1 s2
      clear hb1
      go_wp2_with fail
      refine (lstMo_any Y yn yc ys _ HL.out.y HL.out.yn HL.out.yl).mono ?_
      rintro e w1 ⟨rfl, hb1⟩
      replace HBX := hide (andthen HBX.out hb1)
      clear hb1
      clear s1 s2
      go_wp2_with fail
      go_ret
      exact ⟨ret_bool (by rw [e.out]), HBX.out⟩

def sutB (fr : Int) (ds : List Wd) (ms ys : List Int) : Bool :=
  if fr = 1 then !ds.any posB
  else if fr = 2 then !ds.any posB && decide (ms.length = 0)
  else if fr = 4 then decide (0 < ys.length) || (decide (ds.length = 0) && decide (ms.length = 0))
  else true
theorem len_eq0 (l : Nat) (h : l = 0) : ((l : Int) == 0) = true := by subst h; rfl
theorem len_ne0 (l : Nat) (h : ¬ l = 0) : ((l : Int) == 0) = false := by rw [beq_eq_false_iff_ne]; omega
set_option maxHeartbeats 2000000 in
theorem suited_any (fr ev ct un : Int) (D M Y : Option Addr) (dn dc mn mc yn yc : Nat) (ds : List Wd) (ms ys : List Int) (w : World) (h : Lies w D dn M mn Y yn ds ms ys) :
    Calls Tryz.prog 165 #[.agg #[.int .i64 fr, .int .i64 ev, .int .i64 ct, .int .i64 un, .slice D dn dc, .slice M mn mc, .slice Y yn yc]] w (Ans w (.bool (sutB fr ds ms ys))) := by
  have HBX := hide (more (start w) (.cells #[.int .i64 fr, .int .i64 ev, .int .i64 ct, .int .i64 un, .slice D dn dc, .slice M mn mc, .slice Y yn yc] 180))
  have HL := hide (h.keep HBX.out)
  have HN := hide (And.intro h.dn (And.intro h.mn h.yn))
  have s1 : (w.alloc (.cells #[.int .i64 fr, .int .i64 ev, .int .i64 ct, .int .i64 un, .slice D dn dc, .slice M mn mc, .slice Y yn yc] 180)).cell? ⟨w.heap.size, 5, none⟩ = some (.slice M mn mc) := by rw [World.cell?_alloc_at _ _ _ _ rfl]; rfl
  clear h
  by_cases k1 : fr = 1
  · subst k1
    have e := hide (show sutB 1 ds ms ys = !ds.any posB from rfl)
    clear s1
    go_enter Tryz.func165, Tryz.ntmps165
    go_wp2_with fail
    refine (hasPos_any D M Y dn dc mn mc yn yc ds _ HL.out.d HL.out.dn HL.out.dl).mono ?_
    rintro e w1 ⟨rfl, hb1⟩
    replace HBX := hide (andthen HBX.out hb1)
    clear hb1
    go_wp2_with fail
    go_ret
    exact ⟨ret_bool (by rw [e.out]), HBX.out⟩
  have n1 : (fr == 1) = false := by rw [beq_eq_false_iff_ne]; exact k1
  by_cases k2 : fr = 2
  · subst k2
    cases hp : ds.any posB
    · have e := hide (show sutB 2 ds ms ys = decide (ms.length = 0) by unfold sutB; rw [if_neg (by omega), if_pos rfl, hp]; rfl)
      have HP := hide hp
      have hm : ((mn : Int) == 0) = decide (ms.length = 0) := by
        rw [HN.out.2.1]
        by_cases hz : ms.length = 0
        · rw [len_eq0 _ hz, decide_eq_true hz]
        · rw [len_ne0 _ hz, decide_eq_false hz]
      have HM := hide hm
      clear hp hm k1 n1
      go_enter Tryz.func165, Tryz.ntmps165
      go_wp2_with fail
      refine (ans_is (hasPos_any D M Y dn dc mn mc yn yc ds _ HL.out.d HL.out.dn HL.out.dl) HP.out).mono ?_
      rintro e w1 ⟨rfl, hb1⟩
      replace HBX := hide (andthen HBX.out hb1)
      replace s1 := cell_keep hb1 s1
      clear hb1
      go_wp2_with fail
      go_ret
      exact ⟨ret_bool (by rw [e.out, ← HM.out]), HBX.out⟩
    · have e := hide (show sutB 2 ds ms ys = false by unfold sutB; rw [if_neg (by omega), if_pos rfl, hp]; rfl)
      have HP := hide hp
      clear hp k1 n1 s1
      go_enter Tryz.func165, Tryz.ntmps165
      go_wp2_with fail
      refine (ans_is (hasPos_any D M Y dn dc mn mc yn yc ds _ HL.out.d HL.out.dn HL.out.dl) HP.out).mono ?_
      rintro e w1 ⟨rfl, hb1⟩
      replace HBX := hide (andthen HBX.out hb1)
      clear hb1
      go_wp2_with fail
      go_ret
      exact ⟨ret_bool (by rw [e.out]), HBX.out⟩
  have n2 : (fr == 2) = false := by rw [beq_eq_false_iff_ne]; exact k2
  by_cases k4 : fr = 4
  · subst k4
    clear s1 k1 k2 n1 n2
    by_cases hy : 0 < ys.length
    · have e := hide (show sutB 4 ds ms ys = true by unfold sutB; rw [if_neg (by omega), if_neg (by omega), if_pos rfl, decide_eq_true hy]; rfl)
      have g0 : 0 < yn := by rw [HN.out.2.2]; exact hy
      have g : decide (0 < (yn : Int)) = true := decide_eq_true (by omega)
      have g1 : decide (0 < yn) = true := decide_eq_true g0
      clear hy
      go_enter Tryz.func165, Tryz.ntmps165
      go_wp2_with fail
      go_ret
      exact ⟨ret_bool (by rw [e.out]), HBX.out⟩
    · obtain rfl : yn = 0 := by rw [HN.out.2.2]; omega
      by_cases hd : ds.length = 0
      · have e := hide (show sutB 4 ds ms ys = decide (ms.length = 0) by unfold sutB; rw [if_neg (by omega), if_neg (by omega), if_pos rfl, decide_eq_false hy, decide_eq_true hd]; rfl)
        obtain rfl : dn = 0 := by rw [HN.out.1]; exact hd
        have hm : ((mn : Int) == 0) = decide (ms.length = 0) := by
          rw [HN.out.2.1]
          by_cases hz : ms.length = 0
          · rw [len_eq0 _ hz, decide_eq_true hz]
          · rw [len_ne0 _ hz, decide_eq_false hz]
        have HM := hide hm
        clear hm hd hy
        go_enter Tryz.func165, Tryz.ntmps165
        go_wp2_with fail
        go_ret
        exact ⟨ret_bool (by rw [e.out, ← HM.out]; try simp), HBX.out⟩
      · have e := hide (show sutB 4 ds ms ys = false by unfold sutB; rw [if_neg (by omega), if_neg (by omega), if_pos rfl, decide_eq_false hy, decide_eq_false hd]; rfl)
        have g2 : ((dn : Int) == 0) = false := by rw [HN.out.1]; exact len_ne0 _ hd
        have g3 : ¬ dn = 0 := by rw [HN.out.1]; exact hd
        have g4 : (dn == 0) = false := by rw [beq_eq_false_iff_ne]; exact g3
        clear hd hy
        go_enter Tryz.func165, Tryz.ntmps165
        go_wp2_with fail
        go_ret
        exact ⟨ret_bool (by rw [e.out]), HBX.out⟩
  have n4 : (fr == 4) = false := by rw [beq_eq_false_iff_ne]; exact k4
  have e := hide (show sutB fr ds ms ys = true by unfold sutB; rw [if_neg k1, if_neg k2, if_neg k4])
  clear s1 k1 k2 k4
  go_enter Tryz.func165, Tryz.ntmps165
  go_wp2_with fail
  go_ret
  exact ⟨ret_bool (by rw [e.out]), HBX.out⟩

end Go.Proofs.YtlmdceeeahnkcaaGreatDoor

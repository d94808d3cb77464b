/- Walks of package rule: the library's Equal at lists, and the reference's own. -/
import Derived.Test.YtdmplojfidkipaaRuA
namespace Go.Proofs.Ytdmplojfidkipaa
open Go.RowKit Rul Go.Sort

theorem take_ne {α : Type} {l k : List α} {i : Nat} (hi : i < l.length) (hk : i < k.length) (h : l[i] ≠ k[i]) : l ≠ k := by
  rintro rfl; exact h rfl
theorem same_all {α : Type} {l k : List α} (hl : l.length = k.length) (h : l.take l.length = k.take l.length) : l = k := by
  rw [List.take_length, hl, List.take_length] at h; exact h

set_option maxRecDepth 100000 in
set_option maxHeartbeats 1000000 in
theorem eqI_any (A B : Option Addr) (n m c d : Nat) (l k : List Int) (w : World) (hl : RowI w A l) (hk : RowI w B k) (hn : n = l.length) (hm : m = k.length) (hsz : l.length ≤ 1000000) (hsk : k.length ≤ 1000000) :
    Calls Try.prog 86 #[.slice A n c, .slice B m d] w (Ans w (.bool (decide (l = k)))) := by
  subst hn hm
  by_cases hlen : l.length = k.length
  · by_cases hnil : l = []
    · subst hnil
      have hkn : k = [] := List.eq_nil_of_length_eq_zero hlen.symm
      subst hkn
      go_enter Try.func86, Try.ntmps86
      go_wp2_with fail
      refine wp_loop_rounds 1 ?_
      rw [rounds_succ]
      go_wp2_with fail
      go_ret
      exact ⟨rfl, start _⟩
    · obtain ⟨b1, o1, rfl, hb1, hc1⟩ := hl hnil
      obtain ⟨b2, o2, rfl, hb2, hc2⟩ := hk (by rintro rfl; exact hnil (List.eq_nil_of_length_eq_zero hlen))
      have HC1 := hide hc1
      have HC2 := hide hc2
      have HL := hide hlen
      rw [← hlen]
      clear hl hk hc1 hc2 hlen hnil
      go_enter Try.func86, Try.ntmps86
      go_wp2_with fail
      go_loopw [13] (fun i wr => ∃ j : Nat, j ≤ l.length ∧ i = .int .i64 j ∧ l.take j = k.take j ∧ Below w.heap.size w wr) (fun i _ => l.length - (intOf i).toNat)
      case atStart => exact ⟨0, Nat.zero_le _, rfl, rfl, start _⟩
      case round =>
        obtain ⟨j, hj, rfl, heq, hbw⟩ := hrel
        have HE := hide heq
        clear heq
        by_cases hlt : j < l.length
        · have hlk : j < k.length := by have := HL.out; omega
          have p1 : wr.cell? ⟨b1, o1 + j, none⟩ = some (.int .i64 l[j]) := (hbw.cell (p := ⟨b1, _, none⟩) hb1).trans (HC1.out j hlt)
          have p3 : wr.cell? ⟨b2, o2 + j, none⟩ = some (.int .i64 k[j]) := (hbw.cell (p := ⟨b2, _, none⟩) hb2).trans (HC2.out j hlk)
          have hi0 : (0 : Int) ≤ (j : Int) := by omega
          have hi1 : (j : Int) < (l.length : Int) := by omega
          cases e1 : (l[j] == k[j])
          · have HN : Hid (l ≠ k) := by
              show l ≠ k
              refine take_ne hlt hlk fun h => ?_
              rw [h, beq_self_eq_true] at e1; cases e1
            have e9 : (l[j] != k[j]) = true := by rw [bne, e1]; rfl
            go_wp2_with fail
            go_quiet (fail)
            go_wp2_with fail
            go_ret
            exact ⟨ret_bool (decide_eq_false HN.out).symm, below_drawn hbw _⟩
          · have HN : Hid (l.take (j + 1) = k.take (j + 1)) := by
              show l.take (j + 1) = k.take (j + 1)
              rw [List.take_succ_eq_append_getElem hlt, List.take_succ_eq_append_getElem hlk, HE.out]
              congr 2
              exact by simpa using e1
            have e9 : (l[j] != k[j]) = false := by rw [bne, e1]; rfl
            go_wp2_with fail
            go_quiet (fail)
            go_wp2_with fail
            go_roundw
            case rel => exact ⟨j + 1, by omega, by go_num, HN.out, below_drawn hbw _⟩
            case measure => simp [intOf]; omega
        · obtain rfl : j = l.length := by omega
          have HF : Hid (l = k) := same_all HL.out HE.out
          go_wp2_with fail
          go_ret
          exact ⟨ret_bool (decide_eq_true HF.out).symm, hbw⟩
  · have HF : Hid (l ≠ k) := fun h => hlen (by rw [h])
    have e0 : (l.length == k.length) = false := by rw [beq_eq_false_iff_ne]; exact hlen
    have e1 : ((l.length : Int) == (k.length : Int)) = false := by rw [beq_eq_false_iff_ne]; omega
    have e2 : ((l.length : Int) != (k.length : Int)) = true := by rw [bne_iff_ne]; omega
    clear hl hk
    go_enter Try.func86, Try.ntmps86
    go_wp2_with fail
    go_ret
    exact ⟨ret_bool (decide_eq_false HF.out).symm, start _⟩

set_option maxRecDepth 100000 in
set_option maxHeartbeats 1000000 in
theorem eqD_any (A B : Option Addr) (n m c d : Nat) (l k : List Wd) (w : World) (hl : RowD w A l) (hk : RowD w B k) (hn : n = l.length) (hm : m = k.length) (hsz : l.length ≤ 1000000) (hsk : k.length ≤ 1000000) :
    Calls Try.prog 85 #[.slice A n c, .slice B m d] w (Ans w (.bool (decide (l = k)))) := by
  subst hn hm
  by_cases hlen : l.length = k.length
  · by_cases hnil : l = []
    · subst hnil
      have hkn : k = [] := List.eq_nil_of_length_eq_zero hlen.symm
      subst hkn
      go_enter Try.func85, Try.ntmps85
      go_wp2_with fail
      refine wp_loop_rounds 1 ?_
      rw [rounds_succ]
      go_wp2_with fail
      go_ret
      exact ⟨rfl, start _⟩
    · obtain ⟨b1, o1, rfl, hb1, hc1⟩ := hl hnil
      obtain ⟨b2, o2, rfl, hb2, hc2⟩ := hk (by rintro rfl; exact hnil (List.eq_nil_of_length_eq_zero hlen))
      have HC1 := hide hc1
      have HC2 := hide hc2
      have HL := hide hlen
      rw [← hlen]
      clear hl hk hc1 hc2 hlen hnil
      go_enter Try.func85, Try.ntmps85
      go_wp2_with fail
      go_loopw [13] (fun i wr => ∃ j : Nat, j ≤ l.length ∧ i = .int .i64 j ∧ l.take j = k.take j ∧ Below w.heap.size w wr) (fun i _ => l.length - (intOf i).toNat)
      case atStart => exact ⟨0, Nat.zero_le _, rfl, rfl, start _⟩
      case round =>
        obtain ⟨j, hj, rfl, heq, hbw⟩ := hrel
        have HE := hide heq
        clear heq
        by_cases hlt : j < l.length
        · have hlk : j < k.length := by have := HL.out; omega
          have p1 : wr.cell? ⟨b1, o1 + j * 2, none⟩ = some (.int .i64 l[j].1) := (hbw.cell (p := ⟨b1, _, none⟩) hb1).trans (HC1.out j hlt).1
          have p2 : wr.cell? ⟨b1, o1 + j * 2 + 1, none⟩ = some (.int .i64 l[j].2) := (hbw.cell (p := ⟨b1, _, none⟩) hb1).trans (HC1.out j hlt).2
          have p3 : wr.cell? ⟨b2, o2 + j * 2, none⟩ = some (.int .i64 k[j].1) := (hbw.cell (p := ⟨b2, _, none⟩) hb2).trans (HC2.out j hlk).1
          have p4 : wr.cell? ⟨b2, o2 + j * 2 + 1, none⟩ = some (.int .i64 k[j].2) := (hbw.cell (p := ⟨b2, _, none⟩) hb2).trans (HC2.out j hlk).2
          have hi0 : (0 : Int) ≤ (j : Int) := by omega
          have hi1 : (j : Int) < (l.length : Int) := by omega
          cases e1 : (l[j].1 == k[j].1)
          · have HN : Hid (l ≠ k) := by
              show l ≠ k
              refine take_ne hlt hlk fun h => ?_
              rw [h, beq_self_eq_true] at e1; cases e1
            have e9 : (l[j].1 != k[j].1) = true := by rw [bne, e1]; rfl
            go_wp2_with fail
            go_quiet (fail)
            go_wp2_with fail
            go_ret
            exact ⟨ret_bool (decide_eq_false HN.out).symm, below_drawn hbw _⟩
          · have e8 : (l[j].1 != k[j].1) = false := by rw [bne, e1]; rfl
            cases e2 : (l[j].2 == k[j].2)
            · have HN : Hid (l ≠ k) := by
                show l ≠ k
                refine take_ne hlt hlk fun h => ?_
                rw [h, beq_self_eq_true] at e2; cases e2
              have e9 : (l[j].2 != k[j].2) = true := by rw [bne, e2]; rfl
              go_wp2_with fail
              go_quiet (fail)
              go_wp2_with fail
              go_ret
              exact ⟨ret_bool (decide_eq_false HN.out).symm, below_drawn hbw _⟩
            · have HN : Hid (l.take (j + 1) = k.take (j + 1)) := by
                show l.take (j + 1) = k.take (j + 1)
                rw [List.take_succ_eq_append_getElem hlt, List.take_succ_eq_append_getElem hlk, HE.out]
                congr 2
                exact Prod.ext (by simpa using e1) (by simpa using e2)
              have e9 : (l[j].2 != k[j].2) = false := by rw [bne, e2]; rfl
              go_wp2_with fail
              go_quiet (fail)
              go_wp2_with fail
              go_roundw
              case rel => exact ⟨j + 1, by omega, by go_num, HN.out, below_drawn hbw _⟩
              case measure => simp [intOf]; omega
        · obtain rfl : j = l.length := by omega
          have HF : Hid (l = k) := same_all HL.out HE.out
          go_wp2_with fail
          go_ret
          exact ⟨ret_bool (decide_eq_true HF.out).symm, hbw⟩
  · have HF : Hid (l ≠ k) := fun h => hlen (by rw [h])
    have e0 : (l.length == k.length) = false := by rw [beq_eq_false_iff_ne]; exact hlen
    have e1 : ((l.length : Int) == (k.length : Int)) = false := by rw [beq_eq_false_iff_ne]; omega
    have e2 : ((l.length : Int) != (k.length : Int)) = true := by rw [bne_iff_ne]; omega
    clear hl hk
    go_enter Try.func85, Try.ntmps85
    go_wp2_with fail
    go_ret
    exact ⟨ret_bool (decide_eq_false HF.out).symm, start _⟩

set_option maxRecDepth 100000 in
set_option maxHeartbeats 1000000 in
theorem eqR_any (A B : Option Addr) (n m c d : Nat) (l k : List Int) (w : World) (hl : RowI w A l) (hk : RowI w B k) (hn : n = l.length) (hm : m = k.length) (hsz : l.length ≤ 1000000) (hsk : k.length ≤ 1000000) :
    Calls Try.prog 35 #[.slice A n c, .slice B m d] w (Ans w (.bool (decide (l = k)))) := by
  subst hn hm
  by_cases hlen : l.length = k.length
  · by_cases hnil : l = []
    · subst hnil
      have hkn : k = [] := List.eq_nil_of_length_eq_zero hlen.symm
      subst hkn
      go_enter Try.func35, Try.ntmps35
      go_wp2_with fail
      refine wp_loop_rounds 1 ?_
      rw [rounds_succ]
      go_wp2_with fail
      go_ret
      exact ⟨rfl, start _⟩
    · obtain ⟨b1, o1, rfl, hb1, hc1⟩ := hl hnil
      obtain ⟨b2, o2, rfl, hb2, hc2⟩ := hk (by rintro rfl; exact hnil (List.eq_nil_of_length_eq_zero hlen))
      have HC1 := hide hc1
      have HC2 := hide hc2
      have HL := hide hlen
      rw [← hlen]
      clear hl hk hc1 hc2 hlen hnil
      go_enter Try.func35, Try.ntmps35
      go_wp2_with fail
      go_loopw [5] (fun i wr => ∃ j : Nat, j ≤ l.length ∧ i = .int .i64 j ∧ l.take j = k.take j ∧ Below w.heap.size w wr) (fun i _ => l.length - (intOf i).toNat)
      case atStart => exact ⟨0, Nat.zero_le _, rfl, rfl, start _⟩
      case round =>
        obtain ⟨j, hj, rfl, heq, hbw⟩ := hrel
        have HE := hide heq
        clear heq
        by_cases hlt : j < l.length
        · have hlk : j < k.length := by have := HL.out; omega
          have p1 : wr.cell? ⟨b1, o1 + j, none⟩ = some (.int .i64 l[j]) := (hbw.cell (p := ⟨b1, _, none⟩) hb1).trans (HC1.out j hlt)
          have p3 : wr.cell? ⟨b2, o2 + j, none⟩ = some (.int .i64 k[j]) := (hbw.cell (p := ⟨b2, _, none⟩) hb2).trans (HC2.out j hlk)
          have hi0 : (0 : Int) ≤ (j : Int) := by omega
          have hi1 : (j : Int) < (l.length : Int) := by omega
          cases e1 : (l[j] == k[j])
          · have HN : Hid (l ≠ k) := by
              show l ≠ k
              refine take_ne hlt hlk fun h => ?_
              rw [h, beq_self_eq_true] at e1; cases e1
            have e9 : (l[j] != k[j]) = true := by rw [bne, e1]; rfl
            go_wp2_with fail
            go_quiet (fail)
            go_wp2_with fail
            go_ret
            exact ⟨ret_bool (decide_eq_false HN.out).symm, below_drawn hbw _⟩
          · have HN : Hid (l.take (j + 1) = k.take (j + 1)) := by
              show l.take (j + 1) = k.take (j + 1)
              rw [List.take_succ_eq_append_getElem hlt, List.take_succ_eq_append_getElem hlk, HE.out]
              congr 2
              exact by simpa using e1
            have e9 : (l[j] != k[j]) = false := by rw [bne, e1]; rfl
            go_wp2_with fail
            go_quiet (fail)
            go_wp2_with fail
            go_roundw
            case rel => exact ⟨j + 1, by omega, by go_num, HN.out, below_drawn hbw _⟩
            case measure => simp [intOf]; omega
        · obtain rfl : j = l.length := by omega
          have HF : Hid (l = k) := same_all HL.out HE.out
          go_wp2_with fail
          go_ret
          exact ⟨ret_bool (decide_eq_true HF.out).symm, hbw⟩
  · have HF : Hid (l ≠ k) := fun h => hlen (by rw [h])
    have e0 : (l.length == k.length) = false := by rw [beq_eq_false_iff_ne]; exact hlen
    have e1 : ((l.length : Int) == (k.length : Int)) = false := by rw [beq_eq_false_iff_ne]; omega
    have e2 : ((l.length : Int) != (k.length : Int)) = true := by rw [bne_iff_ne]; omega
    clear hl hk
    go_enter Try.func35, Try.ntmps35
    go_wp2_with fail
    go_ret
    exact ⟨ret_bool (decide_eq_false HF.out).symm, start _⟩

end Go.Proofs.Ytdmplojfidkipaa

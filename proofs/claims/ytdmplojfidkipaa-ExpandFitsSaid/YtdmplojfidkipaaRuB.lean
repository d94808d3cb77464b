/- Walks of package rule: lists asked element by element, by function values. -/
import Derived.Test.YtdmplojfidkipaaRuA
namespace Go.Proofs.Ytdmplojfidkipaa
open Go.RowKit Rul

theorem any_end {α : Type} (q : α → Bool) (l : List α) (j : Nat) (hj : j = l.length) (h : ∀ i (hi : i < l.length), i < j → q l[i] = false) : l.any q = false :=
  any_none q l fun i hi => h i hi (by omega)
theorem none_step {α : Type} (q : α → Bool) (l : List α) (j : Nat) (hj : j < l.length) (h : ∀ i (hi : i < l.length), i < j → q l[i] = false) (h2 : q l[j] = false) : ∀ i (hi : i < l.length), i < j + 1 → q l[i] = false := fun i hi h3 => by
  rcases Nat.lt_or_ge i j with g | g
  · exact h i hi g
  · obtain rfl : i = j := by omega
    exact h2
/-- an index, or -1: what a search answers. -/
def Finds (w : World) (b : Bool) (e : Ending) (w' : World) : Prop := ∃ v : Int, e = .returned (.int .i64 v) ∧ decide (0 ≤ v) = b ∧ Below w.heap.size w w'

set_option maxRecDepth 100000 in
set_option maxHeartbeats 1000000 in
theorem ixMo_any (p : P) (A : Option Addr) (n c : Nat) (l : List Int) (w : World) (hl : RowI w A l) (hn : n = l.length) (hsz : l.length ≤ 1000) :
    Calls Try.prog 104 #[.slice A n c, (.func (.func 97) #[pv p] #[])] w (Finds w (l.any (moFit p))) := by
  subst hn
  by_cases hnil : l = []
  · subst hnil
    go_enter Try.func104, Try.ntmps104
    go_wp2_with fail
    refine wp_loop_rounds 1 ?_
    rw [rounds_succ]
    go_wp2_with fail
    go_ret
    exact ⟨-1, rfl, rfl, start _⟩
  · obtain ⟨b1, o1, rfl, hb1, hc1⟩ := hl hnil
    have HC1 := hide hc1
    clear hl hc1 hnil
    go_enter Try.func104, Try.ntmps104
    go_wp2_with fail
    go_loopw [8] (fun i wr => ∃ j : Nat, j ≤ l.length ∧ i = .int .i64 j ∧ (∀ i (hi : i < l.length), i < j → (moFit p) l[i] = false) ∧ Below w.heap.size w wr) (fun i _ => l.length - (intOf i).toNat)
    case atStart => exact ⟨0, Nat.zero_le _, rfl, fun i hi h => absurd h (Nat.not_lt_zero _), start _⟩
    case round =>
      obtain ⟨j, hj, rfl, heq, hbw⟩ := hrel
      have HE := hide heq
      clear heq
      by_cases hlt : j < l.length
      · have p1 : wr.cell? ⟨b1, o1 + j, none⟩ = some (.int .i64 l[j]) := (hbw.cell (p := ⟨b1, _, none⟩) hb1).trans (HC1.out j hlt)
        have hi0 : (0 : Int) ≤ (j : Int) := by omega
        have hi1 : (j : Int) < (l.length : Int) := by omega
        cases hq : (moFit p) l[j]
        · have HN := hide (none_step (moFit p) l j hlt HE.out hq)
          have HQ := hide hq
          clear hq
          go_wp2_with fail
          refine (ans_is (moFit_any p l[j] _) HQ.out).mono ?_
          rintro e w1 ⟨rfl, hb2⟩
          have hbw2 := hbw.trans (hb2.mono hbw.size)
          go_wp2_with fail
          go_roundw
          case rel => exact ⟨j + 1, by omega, by go_num, HN.out, hbw2⟩
          case measure => simp [intOf]; omega
        · have HN := hide (any_at (moFit p) l j hlt hq)
          have HQ := hide hq
          clear hq
          go_wp2_with fail
          refine (ans_is (moFit_any p l[j] _) HQ.out).mono ?_
          rintro e w1 ⟨rfl, hb2⟩
          have hbw2 := hbw.trans (hb2.mono hbw.size)
          go_wp2_with fail
          go_ret
          exact ⟨_, rfl, by rw [HN.out]; exact decide_eq_true hi0, hbw2⟩
      · obtain rfl : j = l.length := by omega
        have HF := hide (any_end (moFit p) l l.length rfl HE.out)
        go_wp2_with fail
        go_ret
        exact ⟨-1, rfl, by rw [HF.out]; rfl, hbw⟩

set_option maxHeartbeats 400000 in
theorem hasMo_any (p : P) (A : Option Addr) (n c : Nat) (l : List Int) (w : World) (hl : RowI w A l) (hn : n = l.length) (hsz : l.length ≤ 1000) :
    Calls Try.prog 103 #[.slice A n c, (.func (.func 97) #[pv p] #[])] w (Ans w (.bool (l.any (moFit p)))) := by
  subst hn
  have HL := hide hl
  clear hl
  go_enter Try.func103, Try.ntmps103
  go_wp2_with fail
  refine (ixMo_any p A _ c l _ HL.out rfl hsz).mono ?_
  rintro e w1 ⟨v, rfl, hv, hb⟩
  have HV := hide hv
  clear hv
  go_wp2_with fail
  go_ret
  exact ⟨ret_bool (by rw [← HV.out]), hb⟩

set_option maxHeartbeats 400000 in
theorem empMo_any (p : P) (A : Option Addr) (n c : Nat) (l : List Int) (w : World) (hl : RowI w A l) (hn : n = l.length) (hsz : l.length ≤ 1000) :
    Calls Try.prog 96 #[(.func (.func 97) #[pv p] #[]), .slice A n c] w (Ans w (.bool (emptyOr (moFit p) l))) := by
  subst hn
  by_cases hnil : l = []
  · subst hnil
    go_enter Try.func96, Try.ntmps96
    go_wp2_with fail
    go_ret
    exact ⟨rfl, start _⟩
  · have e := hide (emptyOr_any (moFit p) l hnil)
    have h0 : l.length ≠ 0 := fun h => hnil (List.eq_nil_of_length_eq_zero h)
    have h1 : ((l.length : Int) == 0) = false := by rw [beq_eq_false_iff_ne]; omega
    have h2 : (l.length == 0) = false := by rw [beq_eq_false_iff_ne]; exact h0
    have HL := hide hl
    clear hl hnil h0
    go_enter Try.func96, Try.ntmps96
    go_wp2_with fail
    refine (hasMo_any p A _ c l _ HL.out rfl hsz).mono ?_
    rintro e w1 ⟨rfl, hb⟩
    go_wp2_with fail
    go_ret
    exact ⟨ret_bool (by rw [e.out]), hb⟩

set_option maxRecDepth 100000 in
set_option maxHeartbeats 1000000 in
theorem ixMd_any (p : P) (A : Option Addr) (n c : Nat) (l : List Int) (w : World) (hl : RowI w A l) (hn : n = l.length) (hsz : l.length ≤ 1000) :
    Calls Try.prog 104 #[.slice A n c, (.func (.func 98) #[pv p] #[])] w (Finds w (l.any (mdFit p))) := by
  subst hn
  by_cases hnil : l = []
  · subst hnil
    go_enter Try.func104, Try.ntmps104
    go_wp2_with fail
    refine wp_loop_rounds 1 ?_
    rw [rounds_succ]
    go_wp2_with fail
    go_ret
    exact ⟨-1, rfl, rfl, start _⟩
  · obtain ⟨b1, o1, rfl, hb1, hc1⟩ := hl hnil
    have HC1 := hide hc1
    clear hl hc1 hnil
    go_enter Try.func104, Try.ntmps104
    go_wp2_with fail
    go_loopw [8] (fun i wr => ∃ j : Nat, j ≤ l.length ∧ i = .int .i64 j ∧ (∀ i (hi : i < l.length), i < j → (mdFit p) l[i] = false) ∧ Below w.heap.size w wr) (fun i _ => l.length - (intOf i).toNat)
    case atStart => exact ⟨0, Nat.zero_le _, rfl, fun i hi h => absurd h (Nat.not_lt_zero _), start _⟩
    case round =>
      obtain ⟨j, hj, rfl, heq, hbw⟩ := hrel
      have HE := hide heq
      clear heq
      by_cases hlt : j < l.length
      · have p1 : wr.cell? ⟨b1, o1 + j, none⟩ = some (.int .i64 l[j]) := (hbw.cell (p := ⟨b1, _, none⟩) hb1).trans (HC1.out j hlt)
        have hi0 : (0 : Int) ≤ (j : Int) := by omega
        have hi1 : (j : Int) < (l.length : Int) := by omega
        cases hq : (mdFit p) l[j]
        · have HN := hide (none_step (mdFit p) l j hlt HE.out hq)
          have HQ := hide hq
          clear hq
          go_wp2_with fail
          refine (ans_is (mdFit_any p l[j] _) HQ.out).mono ?_
          rintro e w1 ⟨rfl, hb2⟩
          have hbw2 := hbw.trans (hb2.mono hbw.size)
          go_wp2_with fail
          go_roundw
          case rel => exact ⟨j + 1, by omega, by go_num, HN.out, hbw2⟩
          case measure => simp [intOf]; omega
        · have HN := hide (any_at (mdFit p) l j hlt hq)
          have HQ := hide hq
          clear hq
          go_wp2_with fail
          refine (ans_is (mdFit_any p l[j] _) HQ.out).mono ?_
          rintro e w1 ⟨rfl, hb2⟩
          have hbw2 := hbw.trans (hb2.mono hbw.size)
          go_wp2_with fail
          go_ret
          exact ⟨_, rfl, by rw [HN.out]; exact decide_eq_true hi0, hbw2⟩
      · obtain rfl : j = l.length := by omega
        have HF := hide (any_end (mdFit p) l l.length rfl HE.out)
        go_wp2_with fail
        go_ret
        exact ⟨-1, rfl, by rw [HF.out]; rfl, hbw⟩

set_option maxHeartbeats 400000 in
theorem hasMd_any (p : P) (A : Option Addr) (n c : Nat) (l : List Int) (w : World) (hl : RowI w A l) (hn : n = l.length) (hsz : l.length ≤ 1000) :
    Calls Try.prog 103 #[.slice A n c, (.func (.func 98) #[pv p] #[])] w (Ans w (.bool (l.any (mdFit p)))) := by
  subst hn
  have HL := hide hl
  clear hl
  go_enter Try.func103, Try.ntmps103
  go_wp2_with fail
  refine (ixMd_any p A _ c l _ HL.out rfl hsz).mono ?_
  rintro e w1 ⟨v, rfl, hv, hb⟩
  have HV := hide hv
  clear hv
  go_wp2_with fail
  go_ret
  exact ⟨ret_bool (by rw [← HV.out]), hb⟩

set_option maxHeartbeats 400000 in
theorem empMd_any (p : P) (A : Option Addr) (n c : Nat) (l : List Int) (w : World) (hl : RowI w A l) (hn : n = l.length) (hsz : l.length ≤ 1000) :
    Calls Try.prog 96 #[(.func (.func 98) #[pv p] #[]), .slice A n c] w (Ans w (.bool (emptyOr (mdFit p) l))) := by
  subst hn
  by_cases hnil : l = []
  · subst hnil
    go_enter Try.func96, Try.ntmps96
    go_wp2_with fail
    go_ret
    exact ⟨rfl, start _⟩
  · have e := hide (emptyOr_any (mdFit p) l hnil)
    have h0 : l.length ≠ 0 := fun h => hnil (List.eq_nil_of_length_eq_zero h)
    have h1 : ((l.length : Int) == 0) = false := by rw [beq_eq_false_iff_ne]; omega
    have h2 : (l.length == 0) = false := by rw [beq_eq_false_iff_ne]; exact h0
    have HL := hide hl
    clear hl hnil h0
    go_enter Try.func96, Try.ntmps96
    go_wp2_with fail
    refine (hasMd_any p A _ c l _ HL.out rfl hsz).mono ?_
    rintro e w1 ⟨rfl, hb⟩
    go_wp2_with fail
    go_ret
    exact ⟨ret_bool (by rw [e.out]), hb⟩

set_option maxRecDepth 100000 in
set_option maxHeartbeats 1000000 in
theorem ixWd_any (p : P) (A : Option Addr) (n c : Nat) (l : List Wd) (w : World) (hl : RowD w A l) (hn : n = l.length) (hsz : l.length ≤ 1000) :
    Calls Try.prog 94 #[.slice A n c, (.func (.func 100) #[pv p] #[])] w (Finds w (l.any (wdFit p))) := by
  subst hn
  by_cases hnil : l = []
  · subst hnil
    go_enter Try.func94, Try.ntmps94
    go_wp2_with fail
    refine wp_loop_rounds 1 ?_
    rw [rounds_succ]
    go_wp2_with fail
    go_ret
    exact ⟨-1, rfl, rfl, start _⟩
  · obtain ⟨b1, o1, rfl, hb1, hc1⟩ := hl hnil
    have HC1 := hide hc1
    clear hl hc1 hnil
    go_enter Try.func94, Try.ntmps94
    go_wp2_with fail
    go_loopw [8] (fun i wr => ∃ j : Nat, j ≤ l.length ∧ i = .int .i64 j ∧ (∀ i (hi : i < l.length), i < j → (wdFit p) l[i] = false) ∧ Below w.heap.size w wr) (fun i _ => l.length - (intOf i).toNat)
    case atStart => exact ⟨0, Nat.zero_le _, rfl, fun i hi h => absurd h (Nat.not_lt_zero _), start _⟩
    case round =>
      obtain ⟨j, hj, rfl, heq, hbw⟩ := hrel
      have HE := hide heq
      clear heq
      by_cases hlt : j < l.length
      · have p1 : wr.cell? ⟨b1, o1 + j * 2, none⟩ = some (.int .i64 l[j].1) := (hbw.cell (p := ⟨b1, _, none⟩) hb1).trans (HC1.out j hlt).1
        have p2 : wr.cell? ⟨b1, o1 + j * 2 + 1, none⟩ = some (.int .i64 l[j].2) := (hbw.cell (p := ⟨b1, _, none⟩) hb1).trans (HC1.out j hlt).2
        have hi0 : (0 : Int) ≤ (j : Int) := by omega
        have hi1 : (j : Int) < (l.length : Int) := by omega
        cases hq : (wdFit p) l[j]
        · have HN := hide (none_step (wdFit p) l j hlt HE.out hq)
          have HQ := hide hq
          clear hq
          go_wp2_with fail
          refine (ans_is (wdFit_any p l[j].1 l[j].2 _) HQ.out).mono ?_
          rintro e w1 ⟨rfl, hb2⟩
          have hbw2 := hbw.trans (hb2.mono hbw.size)
          go_wp2_with fail
          go_roundw
          case rel => exact ⟨j + 1, by omega, by go_num, HN.out, hbw2⟩
          case measure => simp [intOf]; omega
        · have HN := hide (any_at (wdFit p) l j hlt hq)
          have HQ := hide hq
          clear hq
          go_wp2_with fail
          refine (ans_is (wdFit_any p l[j].1 l[j].2 _) HQ.out).mono ?_
          rintro e w1 ⟨rfl, hb2⟩
          have hbw2 := hbw.trans (hb2.mono hbw.size)
          go_wp2_with fail
          go_ret
          exact ⟨_, rfl, by rw [HN.out]; exact decide_eq_true hi0, hbw2⟩
      · obtain rfl : j = l.length := by omega
        have HF := hide (any_end (wdFit p) l l.length rfl HE.out)
        go_wp2_with fail
        go_ret
        exact ⟨-1, rfl, by rw [HF.out]; rfl, hbw⟩

set_option maxHeartbeats 400000 in
theorem hasWd_any (p : P) (A : Option Addr) (n c : Nat) (l : List Wd) (w : World) (hl : RowD w A l) (hn : n = l.length) (hsz : l.length ≤ 1000) :
    Calls Try.prog 88 #[.slice A n c, (.func (.func 100) #[pv p] #[])] w (Ans w (.bool (l.any (wdFit p)))) := by
  subst hn
  have HL := hide hl
  clear hl
  go_enter Try.func88, Try.ntmps88
  go_wp2_with fail
  refine (ixWd_any p A _ c l _ HL.out rfl hsz).mono ?_
  rintro e w1 ⟨v, rfl, hv, hb⟩
  have HV := hide hv
  clear hv
  go_wp2_with fail
  go_ret
  exact ⟨ret_bool (by rw [← HV.out]), hb⟩

set_option maxHeartbeats 400000 in
theorem empWd_any (p : P) (A : Option Addr) (n c : Nat) (l : List Wd) (w : World) (hl : RowD w A l) (hn : n = l.length) (hsz : l.length ≤ 1000) :
    Calls Try.prog 99 #[(.func (.func 100) #[pv p] #[]), .slice A n c] w (Ans w (.bool (emptyOr (wdFit p) l))) := by
  subst hn
  by_cases hnil : l = []
  · subst hnil
    go_enter Try.func99, Try.ntmps99
    go_wp2_with fail
    go_ret
    exact ⟨rfl, start _⟩
  · have e := hide (emptyOr_any (wdFit p) l hnil)
    have h0 : l.length ≠ 0 := fun h => hnil (List.eq_nil_of_length_eq_zero h)
    have h1 : ((l.length : Int) == 0) = false := by rw [beq_eq_false_iff_ne]; omega
    have h2 : (l.length == 0) = false := by rw [beq_eq_false_iff_ne]; exact h0
    have HL := hide hl
    clear hl hnil h0
    go_enter Try.func99, Try.ntmps99
    go_wp2_with fail
    refine (hasWd_any p A _ c l _ HL.out rfl hsz).mono ?_
    rintro e w1 ⟨rfl, hb⟩
    go_wp2_with fail
    go_ret
    exact ⟨ret_bool (by rw [e.out]), hb⟩

set_option maxRecDepth 100000 in
set_option maxHeartbeats 1000000 in
theorem ixPo_any  (A : Option Addr) (n c : Nat) (l : List Wd) (w : World) (hl : RowD w A l) (hn : n = l.length) (hsz : l.length ≤ 1000) :
    Calls Try.prog 94 #[.slice A n c, (.func (.func 89) #[] #[])] w (Finds w (l.any posB)) := by
  subst hn
  by_cases hnil : l = []
  · subst hnil
    go_enter Try.func94, Try.ntmps94
    go_wp2_with fail
    refine wp_loop_rounds 1 ?_
    rw [rounds_succ]
    go_wp2_with fail
    go_ret
    exact ⟨-1, rfl, rfl, start _⟩
  · obtain ⟨b1, o1, rfl, hb1, hc1⟩ := hl hnil
    have HC1 := hide hc1
    clear hl hc1 hnil
    go_enter Try.func94, Try.ntmps94
    go_wp2_with fail
    go_loopw [8] (fun i wr => ∃ j : Nat, j ≤ l.length ∧ i = .int .i64 j ∧ (∀ i (hi : i < l.length), i < j → posB l[i] = false) ∧ Below w.heap.size w wr) (fun i _ => l.length - (intOf i).toNat)
    case atStart => exact ⟨0, Nat.zero_le _, rfl, fun i hi h => absurd h (Nat.not_lt_zero _), start _⟩
    case round =>
      obtain ⟨j, hj, rfl, heq, hbw⟩ := hrel
      have HE := hide heq
      clear heq
      by_cases hlt : j < l.length
      · have p1 : wr.cell? ⟨b1, o1 + j * 2, none⟩ = some (.int .i64 l[j].1) := (hbw.cell (p := ⟨b1, _, none⟩) hb1).trans (HC1.out j hlt).1
        have p2 : wr.cell? ⟨b1, o1 + j * 2 + 1, none⟩ = some (.int .i64 l[j].2) := (hbw.cell (p := ⟨b1, _, none⟩) hb1).trans (HC1.out j hlt).2
        have hi0 : (0 : Int) ≤ (j : Int) := by omega
        have hi1 : (j : Int) < (l.length : Int) := by omega
        cases hq : posB l[j]
        · have HN := hide (none_step posB l j hlt HE.out hq)
          have HQ := hide hq
          clear hq
          go_wp2_with fail
          refine (ans_is (pos_any l[j].1 l[j].2 _) HQ.out).mono ?_
          rintro e w1 ⟨rfl, hb2⟩
          have hbw2 := hbw.trans (hb2.mono hbw.size)
          go_wp2_with fail
          go_roundw
          case rel => exact ⟨j + 1, by omega, by go_num, HN.out, hbw2⟩
          case measure => simp [intOf]; omega
        · have HN := hide (any_at posB l j hlt hq)
          have HQ := hide hq
          clear hq
          go_wp2_with fail
          refine (ans_is (pos_any l[j].1 l[j].2 _) HQ.out).mono ?_
          rintro e w1 ⟨rfl, hb2⟩
          have hbw2 := hbw.trans (hb2.mono hbw.size)
          go_wp2_with fail
          go_ret
          exact ⟨_, rfl, by rw [HN.out]; exact decide_eq_true hi0, hbw2⟩
      · obtain rfl : j = l.length := by omega
        have HF := hide (any_end posB l l.length rfl HE.out)
        go_wp2_with fail
        go_ret
        exact ⟨-1, rfl, by rw [HF.out]; rfl, hbw⟩

set_option maxHeartbeats 400000 in
theorem hasPo_any  (A : Option Addr) (n c : Nat) (l : List Wd) (w : World) (hl : RowD w A l) (hn : n = l.length) (hsz : l.length ≤ 1000) :
    Calls Try.prog 88 #[.slice A n c, (.func (.func 89) #[] #[])] w (Ans w (.bool (l.any posB))) := by
  subst hn
  have HL := hide hl
  clear hl
  go_enter Try.func88, Try.ntmps88
  go_wp2_with fail
  refine (ixPo_any A _ c l _ HL.out rfl hsz).mono ?_
  rintro e w1 ⟨v, rfl, hv, hb⟩
  have HV := hide hv
  clear hv
  go_wp2_with fail
  go_ret
  exact ⟨ret_bool (by rw [← HV.out]), hb⟩

end Go.Proofs.Ytdmplojfidkipaa

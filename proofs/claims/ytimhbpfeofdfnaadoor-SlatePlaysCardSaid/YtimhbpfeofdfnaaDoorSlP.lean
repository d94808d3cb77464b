/- SlatePlays: what its rows of steps are in memory; few. By hand. -/
import Derived.Test.YtimhbpfeofdfnaaDoorSlX
namespace Go.Proofs.YtimhbpfeofdfnaaDoor
open Go.RowKit Sl

/-- a step in memory: what is done, how many, and where its lines lie. -/
structure Stp where
  what : Int
  n : Int
  A : Option Addr
  c : Nat
  l : List Tx
/-- a row of steps in memory. -/
def RowT (w : World) (A : Option Addr) (ts : List Stp) : Prop :=
  ts ≠ [] → ∃ b off, A = some ⟨b, off, none⟩ ∧ b < w.heap.size ∧ ∀ i (h : i < ts.length), w.cell? ⟨b, off + i * 3, none⟩ = some (.int .i64 ts[i].what) ∧ w.cell? ⟨b, off + i * 3 + 1, none⟩ = some (.int .i64 ts[i].n) ∧ w.cell? ⟨b, off + i * 3 + 2, none⟩ = some (.slice ts[i].A ts[i].l.length ts[i].c)
theorem RowT.nil (w : World) (A : Option Addr) : RowT w A [] := fun h => absurd rfl h
theorem RowT.keep {w w1 : World} {A : Option Addr} {ts : List Stp} (h : RowT w A ts) (hb : Below w.heap.size w w1) : RowT w1 A ts := fun hl => by
  obtain ⟨b, off, e, hlt, hc⟩ := h hl
  exact ⟨b, off, e, Nat.lt_of_lt_of_le hlt hb.size, fun i hi => ⟨(hb.cell (p := ⟨b, _, none⟩) hlt).trans (hc i hi).1, (hb.cell (p := ⟨b, _, none⟩) hlt).trans (hc i hi).2.1, (hb.cell (p := ⟨b, _, none⟩) hlt).trans (hc i hi).2.2⟩⟩
/-- each step's lines and number. -/
def Stps (w : World) (ts : List Stp) : Prop := ∀ s ∈ ts, RowS w s.A s.l ∧ s.l.length ≤ maxLen ∧ s.n ≤ 9223372036854775807
theorem Stps.keep {w w1 : World} {ts : List Stp} (h : Stps w ts) (hb : Below w.heap.size w w1) : Stps w1 ts := fun s hs => ⟨(h s hs).1.keep hb, (h s hs).2⟩
def fewS (s : Stp) : Bool := decide (s.l.length ≤ 6) && s.l.all (fun t => decide (t.length ≤ 60))
theorem fewS_iff (s : Stp) : fewS s = true ↔ s.l.length ≤ 6 ∧ ∀ t ∈ s.l, t.length ≤ 60 := by
  unfold fewS; rw [Bool.and_eq_true, List.all_eq_true, decide_eq_true_eq]; simp
def fewB (ts : List Stp) : Bool := ts.all fewS && decide (ts.length ≤ 40)
theorem fewB_iff (ts : List Stp) : fewB ts = true ↔ (∀ s ∈ ts, s.l.length ≤ 6 ∧ ∀ t ∈ s.l, t.length ≤ 60) ∧ ts.length ≤ 40 := by
  unfold fewB; rw [Bool.and_eq_true, List.all_eq_true, decide_eq_true_eq]
  exact ⟨fun h => ⟨fun s hs => (fewS_iff s).1 (h.1 s hs), h.2⟩, fun h => ⟨fun s hs => (fewS_iff s).2 (h.1 s hs), h.2⟩⟩
theorem fewB_no {ts : List Stp} {s : Stp} (hs : s ∈ ts) (h : ¬ (s.l.length ≤ 6 ∧ ∀ t ∈ s.l, t.length ≤ 60)) : fewB ts = false := by
  rw [Bool.eq_false_iff]; intro e; exact h (((fewB_iff ts).1 e).1 s hs)

set_option maxRecDepth 100000 in
set_option maxHeartbeats 2000000 in
theorem few_any (A : Option Addr) (n c : Nat) (ts : List Stp) (w : World) (h : RowT w A ts) (hs : Stps w ts) (he : n = ts.length) (hn : ts.length ≤ maxLen) :
    Calls Tryd.prog 7 #[.slice A n c] w fun e w' => e = .returned (.bool (fewB ts)) ∧ w' = w := by
  subst he
  have HR := hide h
  have HS := hide hs
  have hM : ts.length ≤ 9223372036854775807 := by unfold maxLen at hn; omega
  clear h hs hn
  go_enter Tryd.func7, Tryd.ntmps7
  go_wp2_with fail
  go_loopw [3] (fun i wr => ∃ k : Nat, k ≤ ts.length ∧ i = .int .i64 k ∧ Hid (∀ s ∈ ts.take k, s.l.length ≤ 6 ∧ ∀ t ∈ s.l, t.length ≤ 60) ∧ wr = w) (fun i _ => ts.length - (intOf i).toNat)
  case atStart => exact ⟨0, Nat.zero_le _, rfl, hide (by simp), rfl⟩
  case round =>
    obtain ⟨k, hk, rfl, HT, rfl⟩ := hrel
    by_cases hlt : k < ts.length
    · obtain ⟨b, off, rfl, hb, hcl⟩ := HR.out (by intro h0; rw [h0] at hlt; exact absurd hlt (Nat.not_lt_zero _))
      have hi0 : (0 : Int) ≤ (k : Int) := by omega
      have hi1 : (k : Int) < (ts.length : Int) := by omega
      obtain ⟨m, hm⟩ : ∃ m, ts[k] = m := ⟨_, rfl⟩
      have d2 := (hcl k hlt).2.2
      rw [hm] at d2
      have hmm := HS.out ts[k] (List.getElem_mem hlt)
      rw [hm] at hmm
      have HRM := hide hmm.1
      have hml : m.l.length ≤ 9223372036854775807 := by have := hmm.2.1; unfold maxLen at this; omega
      have HTK : Hid (ts.take (k + 1) = ts.take k ++ [m]) := hide (by rw [List.take_succ_eq_append_getElem hlt, hm])
      have HMM : Hid (m ∈ ts) := hide (by rw [← hm]; exact List.getElem_mem hlt)
      obtain ⟨ml, hml2⟩ : ∃ ml, m.l = ml := ⟨_, rfl⟩
      have HML := hide hml2
      rw [hml2] at d2 hml HRM
      clear hcl hm hmm hml2
      by_cases hc : 6 < ml.length
      · have HF := hide (fewB_no HMM.out (by rw [HML.out]; intro e; omega))
        go_wp2_with fail
        go_ret
        rw [HF.out]
        exact ⟨rfl, rfl⟩
      · go_wp2_with fail
        go_loopw [4] (fun j wq => ∃ q : Nat, q ≤ ml.length ∧ j = .int .i64 q ∧ Hid (∀ t ∈ ml.take q, t.length ≤ 60) ∧ wq = wr) (fun j _ => ml.length - (intOf j).toNat)
        case atStart => exact ⟨0, Nat.zero_le _, rfl, hide (by simp), rfl⟩
        case round =>
          obtain ⟨q, hq, rfl, HQ, rfl⟩ := hrel
          by_cases hlq : q < ml.length
          · obtain ⟨b1, o1, he1, hb1, hcl1⟩ := HRM.out (by intro h0; rw [h0] at hlq; exact absurd hlq (Nat.not_lt_zero _))
            have d3 := hcl1 q hlq
            rw [he1] at d2
            obtain ⟨x, hx⟩ : ∃ x, ml[q] = x := ⟨_, rfl⟩
            rw [hx] at d3
            have HTQ := hide (show ml.take (q + 1) = ml.take q ++ [x] by rw [List.take_succ_eq_append_getElem hlq, hx])
            have HMX := hide (show x ∈ ml by rw [← hx]; exact List.getElem_mem hlq)
            have hxs := str_size x
            have hj0 : (0 : Int) ≤ (q : Int) := by omega
            have hj1 : (q : Int) < (ml.length : Int) := by omega
            clear hx hcl1 he1
            by_cases hx6 : 60 < x.length
            · have HF := hide (fewB_no HMM.out (by rw [HML.out]; intro e; have := e.2 x HMX.out; omega))
              go_wp2_with fail
              go_ret
              rw [HF.out]
              exact ⟨rfl, rfl⟩
            · have HN := hide (show ∀ t ∈ ml.take (q + 1), t.length ≤ 60 by
                rw [HTQ.out]; intro t ht
                rcases List.mem_append.1 ht with ht | ht
                · exact HQ.out t ht
                · rw [List.mem_singleton.1 ht]; omega)
              go_wp2_with fail
              go_roundw
              case rel => exact ⟨q + 1, by omega, by go_num, HN, trivial⟩
              case measure => simp [intOf]; omega
          · obtain rfl : q = ml.length := by omega
            have HN := hide (show ∀ s ∈ ts.take (k + 1), s.l.length ≤ 6 ∧ ∀ t ∈ s.l, t.length ≤ 60 by
              rw [HTK.out]; intro s hs
              rcases List.mem_append.1 hs with hs | hs
              · exact HT.out s hs
              · rw [List.mem_singleton.1 hs, HML.out]
                have := HQ.out
                rw [List.take_length] at this
                exact ⟨by omega, this⟩)
            go_wp2_with fail
            exact ⟨⟨k + 1, by omega, by go_num, HN, trivial⟩, by simp [intOf]; omega⟩
    · obtain rfl : k = ts.length := by omega
      have HA := HT.out
      rw [List.take_length] at HA
      have HFB : Hid (fewB ts = decide (ts.length ≤ 40)) := hide (by
        by_cases h40 : ts.length ≤ 40
        · rw [decide_eq_true h40]; exact (fewB_iff ts).2 ⟨HA, h40⟩
        · rw [decide_eq_false h40, Bool.eq_false_iff]; intro e; exact h40 ((fewB_iff ts).1 e).2)
      clear HA
      go_wp2_with fail
      go_ret
      rw [HFB.out]
      exact ⟨ret_bool (decide_eq_decide.2 (by omega)), rfl⟩
end Go.Proofs.YtimhbpfeofdfnaaDoor

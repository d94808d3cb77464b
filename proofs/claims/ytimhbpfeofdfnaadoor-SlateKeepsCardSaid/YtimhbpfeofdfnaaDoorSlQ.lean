/- What the laws of slates share: rows of texts compared, a text that has an end; slates side by side in a world. By hand, same_any as in XEvQ. -/
import Derived.Test.YtimhbpfeofdfnaaDoorSlS
namespace Go.Proofs.YtimhbpfeofdfnaaDoor
open Go.RowKit Sl

theorem below_drawn {B : Nat} {a w : World} (h : Below B a w) (n : Nat) : Below B a (w.drewN n) := ⟨h.os, h.tape, h.output, h.size, h.block⟩
set_option maxRecDepth 100000 in
set_option maxHeartbeats 1000000 in
theorem same_any (A B : Option Addr) (n m c d : Nat) (l k : List Tx) (w : World) (hl : RowS w A l) (hk : RowS w B k) (hn : n = l.length) (hm : m = k.length) (hsz : l.length ≤ 1000000) :
    Calls Tryd.prog 19 #[.slice A n c, .slice B m d] w (Ans w (.bool (decide (l = k)))) := by
  have HL := hide hl
  have HK := hide hk
  have HN := hide hn
  have HM := hide hm
  rw [← hn] at hsz
  clear hl hk hn hm
  by_cases hnm : n = m
  · subst hnm
    go_enter Tryd.func19, Tryd.ntmps19
    go_wp2_with fail
    go_loopw [5] (fun i wr => ∃ j : Nat, j ≤ n ∧ i = .int .i64 j ∧ Hid (l.take j = k.take j) ∧ Below w.heap.size w wr) (fun i _ => n - (intOf i).toNat)
    case atStart => exact ⟨0, Nat.zero_le _, rfl, hide rfl, start _⟩
    case round =>
      obtain ⟨j, hj, rfl, HE, hbw⟩ := hrel
      have HBR := hide hbw
      clear hbw
      by_cases hlt : j < n
      · have hjl : j < l.length := by rw [← HN.out]; exact hlt
        have hjk : j < k.length := by rw [← HM.out]; exact hlt
        obtain ⟨b1, o1, rfl, hb1, hc1⟩ := HL.out (by intro h0; rw [h0] at hjl; exact absurd hjl (Nat.not_lt_zero _))
        obtain ⟨b2, o2, rfl, hb2, hc2⟩ := HK.out (by intro h0; rw [h0] at hjk; exact absurd hjk (Nat.not_lt_zero _))
        obtain ⟨x, hx⟩ : ∃ x, l[j] = x := ⟨_, rfl⟩
        obtain ⟨y, hy⟩ : ∃ y, k[j] = y := ⟨_, rfl⟩
        have p1 : wr.cell? ⟨b1, o1 + j, none⟩ = some (.string (str x)) := by rw [← hx]; exact (HBR.out.cell (p := ⟨b1, _, none⟩) hb1).trans (hc1 j hjl)
        have p2 : wr.cell? ⟨b2, o2 + j, none⟩ = some (.string (str y)) := by rw [← hy]; exact (HBR.out.cell (p := ⟨b2, _, none⟩) hb2).trans (hc2 j hjk)
        have hi0 : (0 : Int) ≤ (j : Int) := by omega
        have hi1 : (j : Int) < (n : Int) := by omega
        have q1 := str_tl x
        have q2 := str_tl y
        have HB2 := hide (fun a => below_drawn HBR.out a)
        by_cases hq : x = y
        · have HN2 : Hid (l.take (j + 1) = k.take (j + 1)) := hide (by rw [List.take_succ_eq_append_getElem hjl, List.take_succ_eq_append_getElem hjk, HE.out, hx, hy, hq])
          have q3 : (x == y) = true := by rw [tx_eq, decide_eq_true hq]
          have q4 : (x != y) = false := by rw [bne, q3]; rfl
          clear hx hy hq hc1 hc2 hjl hjk
          go_wp2_with fail
          go_quiet (fail)
          have HB3 := hide (HB2.out nq)
          generalize wr.drewN nq = wq at *
          clear HB2
          go_wp2_with fail
          go_roundw
          case rel => exact ⟨j + 1, by omega, by go_num, HN2, HB3.out⟩
          case measure => simp [intOf]; omega
        · have HF : Hid (decide (l = k) = false) := hide (decide_eq_false (fun e => by subst e; exact hq (by rw [← hx, ← hy])))
          have q3 : (x == y) = false := by rw [tx_eq, decide_eq_false hq]
          have q4 : (x != y) = true := by rw [bne, q3]; rfl
          clear hx hy hq hc1 hc2 hjl hjk
          go_wp2_with fail
          go_quiet (fail)
          have HB3 := hide (HB2.out nq)
          generalize wr.drewN nq = wq at *
          clear HB2
          go_wp2_with fail
          go_ret
          exact ⟨ret_bool HF.out.symm, HB3.out⟩
      · obtain rfl : j = n := by omega
        have HF : Hid (decide (l = k) = true) := hide (decide_eq_true (by
          have h := HE.out
          rw [List.take_of_length_le (by have := HN.out; omega), List.take_of_length_le (by have := HM.out; omega)] at h
          exact h))
        go_wp2_with fail
        go_ret
        exact ⟨ret_bool HF.out.symm, HBR.out⟩
  · have HF : Hid (decide (l = k) = false) := hide (decide_eq_false (fun e => by subst e; exact hnm (by rw [HN.out, HM.out])))
    have q : ((n : Int) != (m : Int)) = true := by rw [bne_iff_ne]; omega
    go_enter Tryd.func19, Tryd.ntmps19
    go_wp2_with fail
    go_ret
    exact ⟨ret_bool HF.out.symm, start _⟩
set_option maxRecDepth 100000 in
set_option maxHeartbeats 1000000 in
theorem lhas_any (q : Tx) (w : World) (hz : q.length ≤ 1000000) : Calls Tryd.prog 23 #[.string (str q)] w (fun e w' => e = .returned (.bool (hasE q)) ∧ w' = w) := by
  have hqs := str_size q
  go_enter Tryd.func23, Tryd.ntmps23
  go_wp2_with fail
  go_loopw [3] (fun j wq => ∃ m : Nat, m ≤ q.length ∧ j = .int .i64 m ∧ Hid (One (q.take m)) ∧ wq = w) (fun j _ => q.length - (intOf j).toNat)
  case atStart => exact ⟨0, Nat.zero_le _, rfl, hide (by intro x hx; simp at hx), rfl⟩
  case round =>
    obtain ⟨m, hm, rfl, hqm, rfl⟩ := hrel
    by_cases hlm : m < q.length
    · have hj0 : (0 : Int) ≤ (m : Int) := by omega
      have hj1 : (m : Int) < (q.length : Int) := by omega
      have hcc : (str q)[m]'(by rw [hqs]; exact hlm) = q[m] := by simp [str, ByteArray.getElem_eq_getElem_data]
      by_cases hc : q[m] = 10
      · have HA := hide (hasE_at hlm hc)
        rw [hc] at hcc
        clear hc hqm
        go_wp2_with fail
        go_ret
        rw [HA.out]
        exact ⟨rfl, rfl⟩
      · have HO := hide (one_take hlm hqm.out hc)
        have hne : (((q[m]).toNat : Int) == 10) = false := by
          rw [beq_eq_false_iff_ne]
          intro e
          exact hc (UInt8.toNat_inj.1 (show (q[m]).toNat = 10 by omega))
        clear hc hqm
        go_wp2_with fail
        go_roundw
        case rel => exact ⟨m + 1, by omega, by go_num, HO, trivial⟩
        case measure => simp [intOf]; omega
    · obtain rfl : m = q.length := by omega
      have HO := hide (hasE_no.2 (by have := hqm.out; rwa [List.take_length] at this))
      clear hqm
      go_wp2_with fail
      go_ret
      rw [HO.out]
      exact ⟨rfl, rfl⟩

theorem off_new {w : World} {X g : Nat} {s : St} (h : SlateAt w X g s) : Off (some ⟨w.heap.size, 0, none⟩) X g := fun b o e => by
  injection e with e
  injection e with e1 _
  subst e1
  exact ⟨fun e => by have := h.lt; omega, fun e => by have := h.ltg; omega⟩
theorem rowS_chg {w w' : World} {X g : Nat} {A : Option Addr} {l : List Tx} (h : RowS w A l) (hc : Chg X g w w') (ho : l ≠ [] → Off A X g) : RowS w' A l := fun hn => by
  obtain ⟨b, off, e, hl, hcell⟩ := h hn
  obtain ⟨h1, h2⟩ := ho hn b off e
  exact ⟨b, off, e, Nat.lt_of_lt_of_le hl hc.size, fun i hi => hc.cell (hcell i hi) h1 h2⟩
theorem off_turn {w : World} {X g g2 : Nat} {A : Option Addr} {l : List Tx} (h : RowS w A l) (ho : l ≠ [] → Off A X g) (hg : g2 = g ∨ w.heap.size ≤ g2) : l ≠ [] → Off A X g2 := fun hn b o e => by
  obtain ⟨b1, off, e1, hl, _⟩ := h hn
  rw [e1] at e
  injection e with e
  injection e with e _
  subst e
  obtain ⟨h1, h2⟩ := ho hn b1 off e1
  exact ⟨h1, by rcases hg with rfl | hg; exact h2; omega⟩
theorem off_nil (X g : Nat) : Off none X g := fun b o e => by cases e
theorem rowS_one (w : World) (a : Tx) : RowS (w.alloc (.cells #[.string (str a)] 9)) (some ⟨w.heap.size, 0, none⟩) [a] := fun _ => by
  refine ⟨w.heap.size, 0, rfl, by simp, fun i hi => ?_⟩
  obtain rfl : i = 0 := by simpa using hi
  rw [World.cell?_alloc_at _ _ _ _ rfl]; rfl
/-- a slate that a call made. -/
structure One1 (w0 W : World) (X g : Nat) (s : St) : Prop where
  at_ : SlateAt W X g s
  x : w0.heap.size ≤ X
  y : w0.heap.size ≤ g
  b : Below w0.heap.size w0 W
theorem Makes.one {w0 W W' : World} {s : St} {e : Ending} (h : Makes W s e W') (hb : Below w0.heap.size w0 W) : ∃ X g, e = .returned (.pointer (some ⟨X, 0, none⟩)) ∧ One1 w0 W' X g s ∧ Below W.heap.size W W' ∧ W.heap.size ≤ X ∧ W.heap.size ≤ g := by
  obtain ⟨X, g, he, h1, h2, h3, h4⟩ := h
  have := hb.size
  exact ⟨X, g, he, ⟨h1, by omega, by omega, andthen hb h4⟩, h4, h2, h3⟩
theorem One1.keep {w0 W W' : World} {X g : Nat} {s : St} (h : One1 w0 W X g s) (hb : Below W.heap.size W W') : One1 w0 W' X g s := ⟨h.at_.keep hb, h.x, h.y, andthen h.b hb⟩
theorem One1.chg {w0 W W' : World} {X g : Nat} {s s2 : St} (h : One1 w0 W X g s) (h1 : SlateAt W' X g s2) (h2 : Chg X g W W') : One1 w0 W' X g s2 := ⟨h1, h.x, h.y, h.b.trans (h2.below h.x h.y h.b.size)⟩
theorem One1.turn {w0 W W' : World} {X g : Nat} {s s2 : St} (h : One1 w0 W X g s) (ht : Turns W X g s2 W') : ∃ g', (g' = g ∨ W.heap.size ≤ g') ∧ One1 w0 W' X g' s2 ∧ Chg X g W W' := by
  obtain ⟨g', h1, h2, h3⟩ := ht
  have h4 := h.b.size
  have h5 := h.y
  exact ⟨g', h1, ⟨h2, h.x, by rcases h1 with rfl | h1; exact h5; omega, h.b.trans (h3.below h.x h.y h.b.size)⟩, h3⟩
/-- two slates apart. -/
def Apart2 (X g X2 g2 : Nat) : Prop := X ≠ X2 ∧ X ≠ g2 ∧ g ≠ X2 ∧ g ≠ g2
theorem Apart2.swap {X g X2 g2 : Nat} (h : Apart2 X g X2 g2) : Apart2 X2 g2 X g := ⟨h.1.symm, h.2.2.1.symm, h.2.1.symm, h.2.2.2.symm⟩
theorem One1.other {w0 W W' : World} {X g X2 g2 g3 : Nat} {s2 : St} (h : One1 w0 W X2 g2 s2) (hc : Chg X g W W') (ha : Apart2 X g X2 g2) (hx : w0.heap.size ≤ X) (hg : w0.heap.size ≤ g) (h3 : g3 = g ∨ W.heap.size ≤ g3) : One1 w0 W' X2 g2 s2 ∧ Apart2 X g3 X2 g2 := by
  refine ⟨⟨h.at_.other hc ha.1.symm ha.2.2.1.symm ha.2.1.symm ha.2.2.2.symm, h.x, h.y, h.b.trans (hc.below hx hg h.b.size)⟩, ha.1, ha.2.1, ?_, ?_⟩
  · rcases h3 with rfl | h3
    · exact ha.2.2.1
    · have := h.at_.lt; omega
  · rcases h3 with rfl | h3
    · exact ha.2.2.2
    · have := h.at_.ltg; omega
theorem apart_new {w0 W : World} {X g X2 g2 : Nat} {s : St} (h : One1 w0 W X g s) (h2 : W.heap.size ≤ X2) (h3 : W.heap.size ≤ g2) : Apart2 X g X2 g2 := by
  have a := h.at_.lt
  have b := h.at_.ltg
  exact ⟨by omega, by omega, by omega, by omega⟩
end Go.Proofs.YtimhbpfeofdfnaaDoor

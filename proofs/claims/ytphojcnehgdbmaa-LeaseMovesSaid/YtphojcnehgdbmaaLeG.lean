/- Package lease: copied, Copy, and the methods that hand on. Written by recipes/le2.py. -/
import Derived.Test.YtphojcnehgdbmaaLeC
import Derived.Test.YtphojcnehgdbmaaLeD
import Derived.Test.YtphojcnehgdbmaaLeE
import Derived.Test.YtphojcnehgdbmaaLeF
namespace Go.Proofs.Ytphojcnehgdbmaa.S2
open Go.RowKit Spn Cl Le

/-- eight pointers as a value. -/
def ptrV (bs : Nat → Nat) : Value := .agg #[.pointer (some ⟨bs 0, 0, none⟩), .pointer (some ⟨bs 1, 0, none⟩), .pointer (some ⟨bs 2, 0, none⟩), .pointer (some ⟨bs 3, 0, none⟩), .pointer (some ⟨bs 4, 0, none⟩), .pointer (some ⟨bs 5, 0, none⟩), .pointer (some ⟨bs 6, 0, none⟩), .pointer (some ⟨bs 7, 0, none⟩)]
def GivesB (W : World) (f : Rm) (e : Ending) (w : World) : Prop := ∃ bs, e = .returned (ptrV bs) ∧ (∀ r, r < 8 → W.heap.size ≤ bs r) ∧ (∀ r, r < 8 → SetAt w (bs r) (f r)) ∧ (∀ r q, r < 8 → q < 8 → bs r = bs q → r = q) ∧ Below W.heap.size W w
theorem set8_grown (w : World) (b : Nat) (u : Nat → Value) : w.grownBy (set8 w b u) (some b) :=
  (((((((grown_set w b 0 _).trans (grown_set _ b 1 _)).trans (grown_set _ b 2 _)).trans (grown_set _ b 3 _)).trans (grown_set _ b 4 _)).trans (grown_set _ b 5 _)).trans (grown_set _ b 6 _)).trans (grown_set _ b 7 _)
theorem lease_of (w : World) (y : TypeId) (bs : Nat → Nat) (f : Rm) (hs : ∀ r, r < 8 → SetAt w (bs r) (f r)) (hi : ∀ r q, r < 8 → q < 8 → bs r = bs q → r = q) : LeaseAt (w.alloc (.cells #[.pointer (some ⟨bs 0, 0, none⟩), .pointer (some ⟨bs 1, 0, none⟩), .pointer (some ⟨bs 2, 0, none⟩), .pointer (some ⟨bs 3, 0, none⟩), .pointer (some ⟨bs 4, 0, none⟩), .pointer (some ⟨bs 5, 0, none⟩), .pointer (some ⟨bs 6, 0, none⟩), .pointer (some ⟨bs 7, 0, none⟩)] y)) w.heap.size bs f :=
  ⟨by simp, fun r h => by
    rw [World.cell?_alloc_at _ _ _ _ rfl]
    rcases (by omega : r = 0 ∨ r = 1 ∨ r = 2 ∨ r = 3 ∨ r = 4 ∨ r = 5 ∨ r = 6 ∨ r = 7) with rfl | rfl | rfl | rfl | rfl | rfl | rfl | rfl <;> rfl, fun r h => (hs r h).keep (more (start w) _), hi⟩

set_option maxRecDepth 100000 in
set_option maxHeartbeats 4000000 in
theorem copied_any (g : Nat) (bs0 : Nat → Nat) (f : Rm) (w : World) (h : LeaseAt w g bs0 f) :
    Calls Try.prog 33 #[.pointer (some ⟨g, 0, none⟩)] w (GivesB w f) := by
  have hbx1 := more (start w) (.cells #[.pointer none, .pointer none, .pointer none, .pointer none, .pointer none, .pointer none, .pointer none, .pointer none] 46)
  have hbx := more hbx1 (.cells #[.pointer none, .pointer none, .pointer none, .pointer none, .pointer none, .pointer none, .pointer none, .pointer none] 46)
  have H := hide (h.keep hbx)
  have HM0 := make_new (w.alloc (.cells #[.pointer none, .pointer none, .pointer none, .pointer none, .pointer none, .pointer none, .pointer none, .pointer none] 46)) 46 f
  rw [World.size_alloc] at HM0
  have hQ0 : ∀ r, r < 8 → ((w.alloc (.cells #[.pointer none, .pointer none, .pointer none, .pointer none, .pointer none, .pointer none, .pointer none, .pointer none] 46)).alloc (.cells #[.pointer none, .pointer none, .pointer none, .pointer none, .pointer none, .pointer none, .pointer none, .pointer none] 46)).cell? ⟨w.heap.size, r, none⟩ = some (.pointer none) := fun r hr => cell_keep (more (start (w.alloc _)) _) (ptr8 w _ r hr)
  have hQ1 : ∀ r, ((w.alloc (.cells #[.pointer none, .pointer none, .pointer none, .pointer none, .pointer none, .pointer none, .pointer none, .pointer none] 46)).alloc (.cells #[.pointer none, .pointer none, .pointer none, .pointer none, .pointer none, .pointer none, .pointer none, .pointer none] 46)).frozen? ⟨w.heap.size, r, none⟩ = false := fun r => ((more (start (w.alloc _)) _).frozen (p := ⟨w.heap.size, r, none⟩) (by simp)).trans (World.frozen?_alloc_at _ _ _ _ rfl)
  have hsz : ((w.alloc (.cells #[.pointer none, .pointer none, .pointer none, .pointer none, .pointer none, .pointer none, .pointer none, .pointer none] 46)).alloc (.cells #[.pointer none, .pointer none, .pointer none, .pointer none, .pointer none, .pointer none, .pointer none, .pointer none] 46)).heap.size = w.heap.size + 1 + 1 := by simp
  clear h hbx1
  go_enter Try.func33, Try.ntmps33
  go_wp2_with fail
  generalize ((w.alloc (.cells #[.pointer none, .pointer none, .pointer none, .pointer none, .pointer none, .pointer none, .pointer none, .pointer none] 46)).alloc (.cells #[.pointer none, .pointer none, .pointer none, .pointer none, .pointer none, .pointer none, .pointer none, .pointer none] 46)) = W at *
  have HM : Hid (MakeAt W (w.heap.size + 1) w.heap.size (fun _ => 0) 0 f) := hide ⟨HM0.lt, HM0.cell, HM0.froz, HM0.set, HM0.inj, fun r hr => absurd hr (Nat.not_lt_zero r)⟩
  have HBX := hide hbx
  have HQ0 := hide hQ0
  have HQ1 := hide hQ1
  clear HM0 hbx hQ0 hQ1
  go_loopw [7] (fun i wr => ∃ (k : Nat) (bs : Nat → Nat), k ≤ 8 ∧ i = .int .i64 k ∧ Hid (MakeAt wr (w.heap.size + 1) w.heap.size bs k f) ∧ Hid (LeaseAt wr g bs0 f) ∧ Hid (∀ r, r < 8 → wr.cell? ⟨w.heap.size, r, none⟩ = some (.pointer none)) ∧ Hid (∀ r, wr.frozen? ⟨w.heap.size, r, none⟩ = false) ∧ Hid (Below w.heap.size w wr)) (fun i _ => 8 - (intOf i).toNat)
  case atStart => exact ⟨0, fun _ => 0, by omega, rfl, hide HM.out, hide H.out, hide HQ0.out, hide HQ1.out, hide HBX.out⟩
  case round =>
    obtain ⟨k, bs, hk, rfl, HK, HL, HR0, HR1, HBR⟩ := hrel
    by_cases hlt : k < 8
    · have hj0 : (0 : Int) ≤ (k : Int) := by omega
      have hj1 : (k : Int) < 8 := by omega
      have hc := HL.out.cell k hlt
      have hgl := HK.out.lt
      go_wp2_with fail
      go_quiet (fail)
      have hd : Below wr.heap.size wr (wr.drewN nq) := below_drawn (start wr) nq
      go_wp2_with fail
      refine (copy_any (bs0 k) (f k) (wr.drewN nq) ((HL.out.set k hlt).keep hd)).mono ?_
      rintro e w1 ⟨b1, rfl, hlo, hs1, hb1⟩
      have hb2 := andthen hd hb1
      have HN := hide (HK.out.next hlt hb2 hs1 hlo HBR.out.size)
      have HL1 := HL.out.keep hb2
      have hx := (HK.out.keep hb2).cell k hlt
      have hf := (HK.out.keep hb2).froz k
      have hne : ¬ g = w.heap.size + 1 := fun e => by
        have h1 := HL1.cell 0 (by omega)
        have h2 := (HK.out.keep hb2).cell k hlt
        rw [if_neg (Nat.lt_irrefl k)] at h2
        have h3 := HL1.cell k hlt
        rw [e] at h3
        rw [h3] at h2
        injection h2 with h2
        injection h2 with h2
        cases h2
      have HL2 : Hid (LeaseAt (w1.setCell ⟨w.heap.size + 1, k, none⟩ (.pointer (some ⟨b1, 0, none⟩))) g bs0 f) := hide (by
        have hcg : Chg (w.heap.size + 1) w1 (w1.setCell ⟨w.heap.size + 1, k, none⟩ (.pointer (some ⟨b1, 0, none⟩))) := setCell_grown w1 _ k _
        have hz := (HK.out.keep hb2).cell 0 (by omega)
        have h1 := (HK.out.keep hb2).cell 1 (by omega)
        exact ⟨Nat.lt_of_lt_of_le HL1.lt hcg.size, fun r hr => hcg.cell' hne (HL1.cell r hr), fun r hr => (HL1.set r hr).away hz hcg fun e => by
          have ho := (HL1.set r hr).one
          rw [e] at ho
          exact ho.no (Nat.le_refl 1) h1, HL1.inj⟩)
      have HR0b : Hid (∀ r, r < 8 → (w1.setCell ⟨w.heap.size + 1, k, none⟩ (.pointer (some ⟨b1, 0, none⟩))).cell? ⟨w.heap.size, r, none⟩ = some (.pointer none)) := hide fun r hr => by
        rw [World.cell?_setCell_other _ _ _ _ (by intro hc; injection hc with hc; omega)]
        exact cell_keep hb2 (HR0.out r hr)
      have HR1b : Hid (∀ r, (w1.setCell ⟨w.heap.size + 1, k, none⟩ (.pointer (some ⟨b1, 0, none⟩))).frozen? ⟨w.heap.size, r, none⟩ = false) := hide fun r => by
        rw [World.frozen?_setCell]
        exact (hb2.frozen (p := ⟨w.heap.size, r, none⟩) (by show w.heap.size < wr.heap.size; omega)).trans (HR1.out r)
      have HB2 : Hid (Below w.heap.size w (w1.setCell ⟨w.heap.size + 1, k, none⟩ (.pointer (some ⟨b1, 0, none⟩)))) := hide (Below.setCell (HBR.out.trans (hb2.mono HBR.out.size)) (Nat.le_succ _) _)
      have HE : Hid (∀ r, r < k + 1 → putR f k (f k) r = f r) := hide fun r _ => by
        unfold putR; split
        · rename_i e; rw [e]
        · rfl
      clear hs1 hb1 hb2 HL1 hlo hne hc
      go_wp2_with fail
      go_roundw
      case rel => exact ⟨k + 1, _, by omega, by go_num, hide (HN.out.congr HE.out), hide HL2.out, hide HR0b.out, hide HR1b.out, hide HB2.out⟩
      case measure => simp [intOf]; omega
    · obtain rfl : k = 8 := by omega
      have hX0 : w.heap.size < wr.heap.size := by have := HK.out.lt; omega
      have HC : Hid (∀ r, r < 8 → wr.cell? ⟨w.heap.size + 1, r, none⟩ = some (.pointer (some ⟨bs r, 0, none⟩))) := hide fun r hr => by have := HK.out.cell r hr; rw [if_pos hr] at this; exact this
      have HG : Hid (wr.grownBy (set8 wr w.heap.size fun k => .pointer (some ⟨bs k, 0, none⟩)) (some w.heap.size)) := hide (set8_grown _ _ _)
      have HSE : Hid (∀ r, r < 8 → SetAt (set8 wr w.heap.size fun k => .pointer (some ⟨bs k, 0, none⟩)) (bs r) (f r)) := hide fun r hr => (HK.out.set r hr).away (HR0.out 0 (by omega)) HG.out fun e => by
        have ho := (HK.out.set r hr).one
        rw [e] at ho
        exact ho.no (Nat.le_refl 1) (HR0.out 1 (by omega))
      have HLO := hide HK.out.low
      have HIN := hide HK.out.inj
      have p0 := HC.out 0 (by omega)
      have q0 := HR0.out 0 (by omega)
      have f0 := HR1.out 0
      have p1 := HC.out 1 (by omega)
      have q1 := HR0.out 1 (by omega)
      have f1 := HR1.out 1
      have p2 := HC.out 2 (by omega)
      have q2 := HR0.out 2 (by omega)
      have f2 := HR1.out 2
      have p3 := HC.out 3 (by omega)
      have q3 := HR0.out 3 (by omega)
      have f3 := HR1.out 3
      have p4 := HC.out 4 (by omega)
      have q4 := HR0.out 4 (by omega)
      have f4 := HR1.out 4
      have p5 := HC.out 5 (by omega)
      have q5 := HR0.out 5 (by omega)
      have f5 := HR1.out 5
      have p6 := HC.out 6 (by omega)
      have q6 := HR0.out 6 (by omega)
      have f6 := HR1.out 6
      have p7 := HC.out 7 (by omega)
      have q7 := HR0.out 7 (by omega)
      have f7 := HR1.out 7
      go_wp2_with fail
      obtain ⟨r0, r1, r2, r3, r4, r5, r6, r7⟩ := set8_cell wr w.heap.size (fun k => .pointer (some ⟨bs k, 0, none⟩)) (v := fun _ => .pointer none) (fun k hk => HR0.out k hk)
      have HBE := hide (set8_below (fun k => .pointer (some ⟨bs k, 0, none⟩)) HBR.out (Nat.le_refl w.heap.size))
      unfold set8 at r0 r1 r2 r3 r4 r5 r6 r7 HBE HSE
      clear q0 f0 p0 q1 f1 p1 q2 f2 p2 q3 f3 p3 q4 f4 p4 q5 f5 p5 q6 f6 p6 q7 f7 p7 HK HL HR0 HR1 HBR HC HG
      generalize ((((((((wr.setCell ⟨w.heap.size, 0, none⟩ (.pointer (some ⟨bs 0, 0, none⟩))).setCell ⟨w.heap.size, 1, none⟩ (.pointer (some ⟨bs 1, 0, none⟩))).setCell ⟨w.heap.size, 2, none⟩ (.pointer (some ⟨bs 2, 0, none⟩))).setCell ⟨w.heap.size, 3, none⟩ (.pointer (some ⟨bs 3, 0, none⟩))).setCell ⟨w.heap.size, 4, none⟩ (.pointer (some ⟨bs 4, 0, none⟩))).setCell ⟨w.heap.size, 5, none⟩ (.pointer (some ⟨bs 5, 0, none⟩))).setCell ⟨w.heap.size, 6, none⟩ (.pointer (some ⟨bs 6, 0, none⟩))).setCell ⟨w.heap.size, 7, none⟩ (.pointer (some ⟨bs 7, 0, none⟩))) = WZ at *
      (try simp only [Exit.inBlock, Exit.then])
      refine bodyPost_ret (v := ptrV bs) ?_ rfl ⟨bs, rfl, HLO.out, HSE.out, HIN.out, HBE.out⟩
      rw [results_cell1 rfl]
      go_simp
      rfl

set_option maxRecDepth 100000 in
set_option maxHeartbeats 4000000 in
theorem copyL_any (g : Nat) (bs0 : Nat → Nat) (f : Rm) (w : World) (h : LeaseAt w g bs0 f) :
    Calls Try.prog 14 #[.pointer (some ⟨g, 0, none⟩)] w (NewL w f) := by
  have H := hide h
  clear h
  go_enter Try.func14, Try.ntmps14
  go_wp2_with fail
  refine (copied_any g bs0 f w H.out).mono ?_
  rintro e w1 ⟨bs, rfl, hlo, hs, hi, hb⟩
  have HN := hide (lease_of w1 48 bs f hs hi)
  have HLO := hide hlo
  have HB := hide hb
  clear hlo hs hi hb
  unfold ptrV
  go_wp2_with fail
  go_ret
  exact ⟨_, bs, rfl, HB.out.size, HLO.out, HN.out, more HB.out _⟩

set_option maxRecDepth 100000 in
set_option maxHeartbeats 4000000 in
theorem ownL_any (g : Nat) (bs : Nat → Nat) (f : Rm) (w : World) (h : LeaseAt w g bs f) (hn : (outC f).length ≤ 500000) :
    Calls Try.prog 15 #[.pointer (some ⟨g, 0, none⟩)] w (GivesC w (outC f)) := by
  have H := hide h
  have HN := hide hn
  clear h hn  
  go_enter Try.func15, Try.ntmps15
  go_wp2_with fail
  refine (ownR_any g bs f w H.out HN.out).mono ?_
  rintro e w1 ⟨v, rfl, ho, hb⟩
  have HO := hide ho
  clear ho
  go_wp2_with fail
  go_ret
  exact ⟨_, rfl, HO.out, hb⟩

set_option maxRecDepth 100000 in
set_option maxHeartbeats 4000000 in
theorem hasL_any (g : Nat) (bs : Nat → Nat) (f : Rm) (A : Option Addr) (n c : Nat) (l : List C) (w : World) (h : LeaseAt w g bs f) (hr : RowC w A l) (he : n = l.length) (hn : l.length ≤ 40000) :
    Calls Try.prog 20 #[.pointer (some ⟨g, 0, none⟩), .slice A n c] w fun e w' => e = .returned (.bool (hasL f (neatC l))) ∧ Below w.heap.size w w' := by
  subst he
  have H := hide h
  have HR := hide hr
  have HN := hide hn
  clear h hn hr 
  go_enter Try.func20, Try.ntmps20
  go_wp2_with fail
  refine (hasR_any g bs f A _ c l w H.out HR.out rfl HN.out).mono ?_
  rintro e w1 ⟨rfl, hb⟩
  go_wp2_with fail
  go_ret
  exact ⟨rfl, hb⟩

set_option maxRecDepth 100000 in
set_option maxHeartbeats 4000000 in
theorem partL_any (g : Nat) (bs : Nat → Nat) (f : Rm) (A : Option Addr) (n c : Nat) (l : List C) (w : World) (h : LeaseAt w g bs f) (hr : RowC w A l) (he : n = l.length) (hn : l.length ≤ 40000) (hf : (outC f).length ≤ 40000) :
    Calls Try.prog 17 #[.pointer (some ⟨g, 0, none⟩), .slice A n c] w (GivesC w (parts f (neatC l))) := by
  subst he
  have H := hide h
  have HR := hide hr
  have HN := hide hn
  have HF := hide hf
  clear h hn hr hf
  go_enter Try.func17, Try.ntmps17
  go_wp2_with fail
  refine (partR_any g bs f A _ c l w H.out HR.out rfl HN.out HF.out).mono ?_
  rintro e w1 ⟨v, rfl, ho, hb⟩
  have HO := hide ho
  clear ho
  go_wp2_with fail
  go_ret
  exact ⟨_, rfl, HO.out, hb⟩

set_option maxRecDepth 100000 in
set_option maxHeartbeats 4000000 in
theorem lackL_any (g : Nat) (bs : Nat → Nat) (f : Rm) (A : Option Addr) (n c : Nat) (l : List C) (w : World) (h : LeaseAt w g bs f) (hr : RowC w A l) (he : n = l.length) (hn : l.length ≤ 40000) (hf : (outC f).length ≤ 40000) :
    Calls Try.prog 19 #[.pointer (some ⟨g, 0, none⟩), .slice A n c] w (GivesC w (lacks f (neatC l))) := by
  subst he
  have H := hide h
  have HR := hide hr
  have HN := hide hn
  have HF := hide hf
  clear h hn hr hf
  go_enter Try.func19, Try.ntmps19
  go_wp2_with fail
  refine (lackR_any g bs f A _ c l w H.out HR.out rfl HN.out HF.out).mono ?_
  rintro e w1 ⟨v, rfl, ho, hb⟩
  have HO := hide ho
  clear ho
  go_wp2_with fail
  go_ret
  exact ⟨_, rfl, HO.out, hb⟩

set_option maxRecDepth 100000 in
set_option maxHeartbeats 4000000 in
theorem addL_any (g : Nat) (bs : Nat → Nat) (f : Rm) (A : Option Addr) (n c : Nat) (l : List C) (w : World) (h : LeaseAt w g bs f) (hr : RowC w A l) (he : n = l.length) (hn : l.length ≤ 40000) (hf : (outC f).length ≤ 40000) :
    Calls Try.prog 10 #[.pointer (some ⟨g, 0, none⟩), .slice A n c] w (TurnsL w g bs (adds f (neatC l))) := by
  subst he
  have H := hide h
  have HR := hide hr
  have HN := hide hn
  have HF := hide hf
  clear h hn hr hf
  go_enter Try.func10, Try.ntmps10
  go_wp2_with fail
  refine (addR_any g bs f A _ c l w H.out HR.out rfl HN.out HF.out).mono ?_
  rintro e w1 ⟨rfl, hl, hc⟩
  have HL := hide hl
  clear hl
  go_wp2_with fail
  go_end0
  exact ⟨rfl, HL.out, hc⟩

set_option maxRecDepth 100000 in
set_option maxHeartbeats 4000000 in
theorem cutL_any (g : Nat) (bs : Nat → Nat) (f : Rm) (A : Option Addr) (n c : Nat) (l : List C) (w : World) (h : LeaseAt w g bs f) (hr : RowC w A l) (he : n = l.length) (hn : l.length ≤ 40000) (hf : (outC f).length ≤ 40000) :
    Calls Try.prog 12 #[.pointer (some ⟨g, 0, none⟩), .slice A n c] w (TurnsL w g bs (cuts f (neatC l))) := by
  subst he
  have H := hide h
  have HR := hide hr
  have HN := hide hn
  have HF := hide hf
  clear h hn hr hf
  go_enter Try.func12, Try.ntmps12
  go_wp2_with fail
  refine (cutR_any g bs f A _ c l w H.out HR.out rfl HN.out HF.out).mono ?_
  rintro e w1 ⟨rfl, hl, hc⟩
  have HL := hide hl
  clear hl
  go_wp2_with fail
  go_end0
  exact ⟨rfl, HL.out, hc⟩
end Go.Proofs.Ytphojcnehgdbmaa.S2

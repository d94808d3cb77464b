/- Walks of package slate: write, Write. By hand. -/
import Derived.Test.YtimhbpfeofdfnaaDoorSlD
namespace Go.Proofs.YtimhbpfeofdfnaaDoor
open Go.RowKit Sl

theorem short_all (s : St) (ls : List Tx) (p q r : Tx) (hP : flatW ls = p ++ q ++ r) (ho : s.off = false) (hn : ls.any hasE = false) (h : s.lim = true → p.length ≤ s.left) (hq : putB (wholeS s p) q = false) : writeS s ls = putS (wholeS s p) q ∧ writeN s ls = 19 := by
  obtain ⟨h1, h2, h3⟩ := put_short s p q r h hq
  rw [← hP] at h2 h3
  rw [h3]
  exact short_write s ls ho hn h1 h2
theorem rowS_two (w : World) (a b : Tx) : RowS (w.alloc (.cells #[.string (str a), .string (str b)] 9)) (some ⟨w.heap.size, 0, none⟩) [a, b] := fun _ => by
  refine ⟨w.heap.size, 0, rfl, by simp, fun i hi => ?_⟩
  rw [World.cell?_alloc_at _ _ _ _ rfl, Nat.zero_add]
  match i, hi with
  | 0, _ => rfl
  | 1, _ => rfl
theorem flat_two (a b : Tx) : [a, b].flatten = a ++ b := by simp
theorem whole_off (s : St) (p : Tx) : (wholeS s p).off = false := by unfold wholeS; split <;> rfl
theorem flatW_take {l : List Tx} {k : Nat} (hk : k < l.length) : flatW (l.take (k + 1)) = flatW (l.take k) ++ (l[k] ++ [10]) := by
  rw [List.take_add_one, List.getElem?_eq_getElem hk, flatW_app]; simp [flatW]
theorem flatW_split {l : List Tx} {k : Nat} (hk : k < l.length) : flatW l = flatW (l.take k) ++ (l[k] ++ [10]) ++ flatW (l.drop (k + 1)) := by
  conv => lhs; rw [← List.take_append_drop k l]
  rw [flatW_app, List.drop_eq_getElem_cons hk, flatW_cons]; simp
/-- rows of texts lie apart from a slate. -/
def Off (A : Option Addr) (X g : Nat) : Prop := ∀ b o, A = some ⟨b, o, none⟩ → b ≠ X ∧ b ≠ g

set_option maxRecDepth 100000 in
set_option maxHeartbeats 1600000 in
theorem write_any (X g : Nat) (s : St) (A : Option Addr) (n c : Nat) (ls : List Tx) (w : World) (h : SlateAt w X g s) (hr : RowS w A ls) (hoff : ls ≠ [] → Off A X g) (hn : n = ls.length) (hsz : ls.length ≤ 100000)
    (hf : s.t.length + (flatW ls).length ≤ 10000000) (hz : s.left ≤ 9223372036854775807) :
    Calls Tryd.prog 24 #[.pointer (some ⟨X, 0, none⟩), .slice A n c] w (fun e w' => e = .returned (.int .i64 (writeN s ls : Int)) ∧ Turns w X g (writeS s ls) w') := by
  subst hn
  have c1 := h.offc
  have HR := hide hr
  have HF := hide hf
  have HZ := hide hz
  have HS := hide h
  have HO := hide hoff
  clear hr hf hz h hoff
  cases ho : s.off with
  | true =>
    rw [ho] at c1
    have HW := hide (write_off s ls ho)
    clear ho
    go_enter Tryd.func24, Tryd.ntmps24
    go_wp2_with fail
    go_ret
    rw [HW.out.1, HW.out.2]
    exact ⟨rfl, g, Or.inl rfl, HS.out, Chg.refl _ _ _⟩
  | false =>
    rw [ho] at c1
    have HOF := hide ho
    clear ho
    cases hB : ls.any hasE with
    | true =>
      have HW := hide (write_form s ls HOF.out hB)
      have HB := hide hB
      clear hB
      go_enter Tryd.func24, Tryd.ntmps24
      go_wp2_with fail
      refine (anyEnd_any A _ c ls w HR.out rfl hsz).mono ?_
      rintro e w2 ⟨rfl, rfl⟩
      rw [HB.out]
      go_wp2_with fail
      go_ret
      rw [HW.out.1, HW.out.2]
      exact ⟨rfl, g, Or.inl rfl, HS.out, Chg.refl _ _ _⟩
    | false =>
      have HB := hide hB
      clear hB
      go_enter Tryd.func24, Tryd.ntmps24
      go_wp2_with fail
      refine (anyEnd_any A _ c ls w HR.out rfl hsz).mono ?_
      rintro e w2 ⟨rfl, rfl⟩
      rw [HB.out]
      go_wp2_with fail
      go_loopw [16] (fun i wr => ∃ k : Nat, k ≤ ls.length ∧ i = .int .i64 k ∧ Hid (s.lim = true → (flatW (ls.take k)).length ≤ s.left) ∧ Hid (Turns w2 X g (wholeS s (flatW (ls.take k))) wr)) (fun i _ => ls.length - (intOf i).toNat)
      case atStart => exact ⟨0, Nat.zero_le _, rfl, hide (fun _ => Nat.zero_le _), hide ⟨g, Or.inl rfl, by simp only [List.take_zero, flatW_nil]; rw [whole_nil s HOF.out]; exact HS.out, Chg.refl _ _ _⟩⟩
      case round =>
        obtain ⟨k, hk, rfl, hq, ht⟩ := hrel
        by_cases hlt : k < ls.length
        · have hnn : ls ≠ [] := fun e => by subst e; exact absurd hlt (Nat.not_lt_zero _)
          obtain ⟨g1, hg1, hs1, hc1⟩ := ht.out
          obtain ⟨b1, o1, rfl, hb1, hcell⟩ := HR.out hnn
          obtain ⟨hbX, hbg⟩ := HO.out hnn b1 o1 rfl
          have p1 := hc1.cell (hcell k hlt) hbX hbg
          have HW := hide hs1
          have HC := hide hc1
          have HG1 := hide hg1
          have HFS := hide (flatW_split hlt)
          have HFT := hide (flatW_take hlt)
          have HLE := hide (show (flatW (ls.take k)).length + (ls[k] ++ [10]).length ≤ (flatW ls).length by have := congrArg List.length (flatW_split hlt); simp only [List.length_append] at this ⊢; omega)
          generalize ls[k] = q at *
          generalize flatW (ls.take k) = pre at *
          have hi0 : (0 : Int) ≤ (k : Int) := by omega
          have hi1 : (k : Int) < (ls.length : Int) := by omega
          clear hcell hs1 hc1 hg1 hnn hbX hbg
          have HN2 := hide (HW.out.keep (more (start wr) (.cells #[.string (str q), .string (str [10])] 9)))
          have HC2 := hide (HC.out.trans (Chg.of_below (X := X) (g := g1) (more (start wr) (.cells #[.string (str q), .string (str [10])] 9)) (Nat.le_refl _)) HG1.out)
          go_wp2_with fail
          refine (put_any X g1 (wholeS s pre) wr.heap.size 2 [q, [10]] _ HN2.out (rowS_two wr q [10]) (by have := HW.out.lt; omega) (by have := HW.out.ltg; omega) (by simp) (by simp) (whole_off _ _) (by rw [whole_t, flat_two, List.length_append]; have := HF.out; have := HLE.out; omega) (Nat.le_trans (whole_left s pre) HZ.out)).mono ?_
          rintro e w3 ⟨rfl, ht3⟩
          rw [flat_two] at ht3 ⊢
          cases hP : putB (wholeS s pre) (q ++ [10]) with
          | false =>
            have HE := hide (short_all s ls pre (q ++ [10]) _ HFS.out HOF.out HB.out hq.out hP)
            have HT3 := hide (Turns.trans HG1.out (HC2.out) ht3)
            clear hP ht3
            go_wp2_with fail
            go_ret
            rw [HE.out.1, HE.out.2]
            exact ⟨rfl, HT3.out⟩
          | true =>
            have HE := hide (put_whole s pre (q ++ [10]) hq.out hP)
            have HT3 := hide (Turns.trans HG1.out (HC2.out) ht3)
            clear hP ht3
            go_wp2_with fail
            go_roundw
            case rel => exact ⟨k + 1, by omega, by go_num, hide (by rw [HFT.out]; exact HE.out.2), hide (by rw [HFT.out, ← HE.out.1]; exact HT3.out)⟩
            case measure => simp [intOf]; omega
        · obtain rfl : k = ls.length := by omega
          have HT0 := hide ht.out
          have HQ0 := hide hq.out
          rw [List.take_length] at HT0 HQ0
          have HWP := hide (whole_write s ls HOF.out HB.out HQ0.out)
          clear ht hq
          go_wp2_with fail
          go_ret
          rw [HWP.out.1, HWP.out.2]
          exact ⟨rfl, HT0.out⟩
theorem sWrite_any (X g : Nat) (s : St) (A : Option Addr) (n c : Nat) (ls : List Tx) (w : World) (h : SlateAt w X g s) (hr : RowS w A ls) (hoff : ls ≠ [] → Off A X g) (hn : n = ls.length) (hsz : ls.length ≤ 100000)
    (hf : s.t.length + (flatW ls).length ≤ 10000000) (hz : s.left ≤ 9223372036854775807) :
    Calls Tryd.prog 10 #[.pointer (some ⟨X, 0, none⟩), .slice A n c] w (fun e w' => e = .returned (.int .i64 (writeN s ls : Int)) ∧ Turns w X g (writeS s ls) w') := by
  subst hn
  have HC := hide (write_any X g s A _ c ls w h hr hoff rfl hsz hf hz)
  clear h hr hoff hsz hf hz
  go_enter Tryd.func10, Tryd.ntmps10
  go_wp2_with fail
  refine HC.out.mono ?_
  rintro e w' ⟨rfl, ht⟩
  go_wp2_with fail
  go_ret
  exact ⟨rfl, ht⟩
end Go.Proofs.YtimhbpfeofdfnaaDoor

/- Package spans: grow, Of, New, Copy. -/
import Derived.Test.YtkjkegjekfebpaaSnJ
namespace Go.Proofs.Ytkjkegjekfebpaa
open Go.RowKit Spn Go.Sort

theorem Row.front {w : World} {A : Option Addr} {l r : List Sp} (h : Row w A (l ++ r)) : Row w A l := fun hl => by
  obtain ⟨b, off, e, hb, hc⟩ := h (by simp [hl])
  refine ⟨b, off, e, hb, fun i hi => ?_⟩
  have := hc i (by simp; omega)
  rw [List.getElem_append_left hi] at this
  exact this
theorem row_back {w : World} {b off k off2 : Nat} {l r : List Sp} (hb : b < w.heap.size) (hk : k = l.length) (ho : off2 = off + k * 2)
    (hc : ∀ i (h : i < (l ++ r).length), w.cell? ⟨b, off + i * 2, none⟩ = some (.int .i64 (l ++ r)[i].1) ∧ w.cell? ⟨b, off + i * 2 + 1, none⟩ = some (.int .i64 (l ++ r)[i].2)) :
    Row w (some ⟨b, off2, none⟩) r := fun _ => by
  subst hk ho
  refine ⟨b, off + l.length * 2, rfl, hb, fun i hi => ?_⟩
  have := hc (l.length + i) (by simp; omega)
  rw [List.getElem_append_right (by omega)] at this
  simp only [Nat.add_sub_cancel_left] at this
  rw [show off + l.length * 2 + i * 2 = off + (l.length + i) * 2 by omega]
  exact this
theorem grow_none (A : Option Addr) (c : Nat) (w : World) : Calls Try.prog 32 #[.slice A 0 c] w (Grows w (Grown [])) := by
  go_enter Try.func32, Try.ntmps32
  go_wp2_with fail
  go_ret
  exact ⟨none, .nil, rfl, rfl, ⟨rfl, trivial, by rw [List.length_nil, gdeep_zero]; rfl⟩, start _⟩

set_option maxRecDepth 100000 in
set_option maxHeartbeats 1600000 in
theorem grow_any (N : Nat) : ∀ (A : Option Addr) (n c : Nat) (l : List Sp) (w : World), l.length ≤ N → Row w A l → n = l.length → n ≤ c → c ≤ maxLen → l.length ≤ 800000 →
    Calls Try.prog 32 #[.slice A n c] w (Grows w (Grown l)) := by
  induction N with
  | zero =>
    intro A n c l w h0 _ hn _ _ _
    obtain rfl := List.eq_nil_of_length_eq_zero (by omega : l.length = 0)
    subst hn
    exact grow_none A c w
  | succ N ih =>
    intro A n c l w hN hrow hn hc hm hlen
    by_cases h0 : l = []
    · subst h0; subst hn; exact grow_none A c w
    obtain ⟨h, hh⟩ : ∃ h, h = l.length / 2 := ⟨_, rfl⟩
    have hlt : h < l.length := by have := List.length_pos_iff.2 h0; omega
    obtain ⟨l1, a, l2, hl, h1⟩ : ∃ l1 a l2, l = l1 ++ a :: l2 ∧ l1.length = h := ⟨l.take h, l[h], l.drop (h + 1), by simp, by simp; omega⟩
    obtain ⟨x, y⟩ := a
    obtain ⟨b, off, rfl, hb, hcl⟩ := hrow h0
    have hlen2 : l.length = l1.length + 1 + l2.length := by rw [hl]; simp; omega
    have c0 : w.cell? ⟨b, off + h * 2, none⟩ = some (.int .i64 x) ∧ w.cell? ⟨b, off + h * 2 + 1, none⟩ = some (.int .i64 y) := by
      have := hcl h hlt
      simp only [hl, ← h1] at this
      rw [List.getElem_append_right (by omega)] at this
      simpa [h1] using this
    have R1 := hide (Row.front (l := l1) (r := (x, y) :: l2) (by rw [← hl]; exact fun _ => ⟨b, off, rfl, hb, hcl⟩))
    have e2 : l1 ++ [(x, y)] ++ l2 = l := by rw [hl]; simp
    have R2 : Hid (Row w (some ⟨b, off + (h + 1) * 2, none⟩) l2) := hide (row_back (l := l1 ++ [(x, y)]) (r := l2) (off := off) (k := h + 1) hb (by simp [h1]) rfl (by rw [e2]; exact hcl))
    clear e2
    have R3 : Hid (Row w (if c = h + 1 then some ⟨b, off, none⟩ else some ⟨b, off + (h + 1) * 2, none⟩) l2) := hide (by
      split
      · have : l2 = [] := List.eq_nil_of_length_eq_zero (by omega)
        rw [this]; exact Row.nil _ _
      · exact R2.out)
    clear R2
    generalize hA2 : (if c = h + 1 then some (⟨b, off, none⟩ : Addr) else some ⟨b, off + (h + 1) * 2, none⟩) = A2 at R3
    have HM1 := hide hm
    have HM2 := hide (by omega : c - (h + 1) ≤ maxLen)
    have HN2 := hide (by omega : n - (h + 1) = l2.length)
    have HC2 := hide (by omega : n - (h + 1) ≤ c - (h + 1))
    have b1 : l1.length ≤ N := by omega
    have b2 : l2.length ≤ N := by omega
    have b3 : l1.length ≤ 800000 := by omega
    have b4 : l2.length ≤ 800000 := by omega
    have b5 : h ≤ c := by omega
    have HG := hide (by omega : l1.length = (l1.length + 1 + l2.length) / 2)
    have HL := hide hl
    have HIH := hide ih
    have hn0 : ¬ (n : Int) = 0 := by omega
    have hq : (n : Int) / 2 = (h : Int) := by omega
    have hn2 := hide (by omega : n = h + 1 + l2.length)
    have g1 : h < n := by omega
    have g2 : (0 : Int) ≤ (h : Int) := by omega
    have g3 : (h : Int) ≤ (c : Int) := by omega
    have g4 : (h : Int) < (n : Int) := by omega
    have g5 : (0 : Int) ≤ (h : Int) + 1 := by omega
    have g6 : (h : Int) + 1 ≤ (n : Int) := by omega
    have q1 : IntKind.i64.wrap ((h : Int) + 1) = (h : Int) + 1 := IntWalk.i64_in _ (by omega)
    have q2 : ((h : Int) + 1).toNat = h + 1 := by omega
    have hH := hide hh
    have H1 := hide h1
    have HN := hide hn
    unfold maxLen at hm
    clear hrow hcl hl ih h0 hh h1 hlen2 hn
    go_enter Try.func32, Try.ntmps32
    go_wp2_with fail
    go_region_held3 (fun w' => w'.cell? ⟨b, off + h * 2, none⟩ = some (.int .i64 x) ∧ w'.cell? ⟨b, off + h * 2 + 1, none⟩ = some (.int .i64 y)) (first | exact keep2 (by assumption) (by assumption) | exact keep2 (start _).drew (by assumption)) ((first
      | (go_at_call 32; (with_reducible refine (HIH.out (some ⟨b, off, none⟩) h c l1 _ b1 (R1.out.keep (start _).drew) H1.out.symm b5 HM1.out b3).mono ?_); rintro e w1 ⟨p1, t1, rfl, hT1, hR1, hb1⟩; have hd1 := grown_deep hR1)
      | (go_at_call 32; (with_reducible refine (HIH.out A2 (n - (h + 1)) (c - (h + 1)) l2 _ b2 (R3.out.keep (andthen (start _).drew hb1)) HN2.out HC2.out HM2.out b4).mono ?_); rintro e w2 ⟨p2, t2, rfl, hT2, hR2, hb2⟩; have hd2 := grown_deep hR2)
      | (go_at_call 48; (with_reducible refine (newNode_any p1 p2 x y t1 t2 _ (hT1.keep hb2) hT2 (by omega) (by omega)).mono ?_); rintro e w3 ⟨p3, rfl, hT3, hb3⟩)))
    go_wp2_with fail
    go_ret
    exact ⟨_, _, rfl, hT3, by rw [HL.out]; exact grown_node l1 l2 (x, y) t1 t2 hR1 hR2 HG.out, andthen (andthen (andthen (start _).drew hb1) hb2) hb3⟩

/-- a set is made. -/
def NewSet (W : World) (l : List Sp) (e : Ending) (w : World) : Prop := ∃ g, e = .returned (.pointer (some ⟨g, 0, none⟩)) ∧ W.heap.size ≤ g ∧ SetAt w g l ∧ Below W.heap.size W w
theorem set_new (w : World) (p : Option Addr) (t : Tr) (h : Tree w p t) (hb : t.Bal) (hn : Neat t.row) : SetAt (w.alloc (.cells #[.pointer p] 41)) w.heap.size t.row :=
  ⟨p, t, heap_alloc_new _ _, h.keep (more (start _) _), rfl, hb, hn⟩
theorem new_any (w : World) : Calls Try.prog 29 #[] w (NewSet w []) := by
  go_enter Try.func29, Try.ntmps29
  go_wp2_with fail
  go_ret
  exact ⟨_, rfl, Nat.le_refl _, set_new w none .nil rfl trivial trivial, more (start _) _⟩
set_option maxHeartbeats 400000 in
theorem of_any (A : Option Addr) (n c : Nat) (l : List Sp) (w : World) (h : Row w A l) (hn : n = l.length) (hlen : l.length ≤ 800000) :
    Calls Try.prog 9 #[.slice A n c] w (NewSet w (canon l)) := by
  have HR := hide h
  have HE := hide hn
  have hcl := canon_len l
  have HN := hide (canon_neat l).1
  clear h hn
  go_enter Try.func9, Try.ntmps9
  go_wp2_with fail
  refine (all_any A n c l _ HR.out HE.out (by omega)).mono ?_
  rintro e w1 ⟨v1, rfl, hown1, hb1⟩
  obtain ⟨A1, cap1, rfl, hrow1⟩ := Own.row hown1
  obtain ⟨hcap, hmax⟩ : (canon l).length ≤ cap1 ∧ cap1 ≤ maxLen := by
    rcases hown1.2 with ⟨h1, h2⟩ | ⟨g, cap, cur, h1, _, _, h4, h5, _⟩
    · injection h1 with _ _ h1; exact ⟨by omega, by rw [h1]; exact Nat.zero_le _⟩
    · injection h1 with _ _ h1; subst h1; exact ⟨h4, h5⟩
  go_wp2_with fail
  refine (grow_any (canon l).length A1 (canon l).length cap1 (canon l) _ (Nat.le_refl _) hrow1 rfl hcap hmax (by omega)).mono ?_
  rintro e w2 ⟨p2, t2, rfl, hT2, hR2, hb2⟩
  go_wp2_with fail
  go_ret
  have hs := set_new w2 p2 t2 hT2 hR2.2.1 (by rw [hR2.1]; exact HN.out)
  rw [hR2.1] at hs
  have hbb := andthen hb1 hb2
  exact ⟨_, rfl, hbb.size, hs, more hbb _⟩
set_option maxHeartbeats 400000 in
theorem copy_any (g : Nat) (l : List Sp) (w : World) (h : SetAt w g l) : Calls Try.prog 15 #[.pointer (some ⟨g, 0, none⟩)] w (NewSet w l) := by
  have HN := hide h.neat
  obtain ⟨p, t, c0, ht, hrow, hbal⟩ := h.root
  subst hrow
  have HT := hide ht
  have HB := hide hbal
  clear h ht hbal
  go_enter Try.func15, Try.ntmps15
  go_wp2_with fail
  go_ret
  exact ⟨_, rfl, Nat.le_refl _, set_new w p t HT.out HB.out HN.out, more (start _) _⟩
end Go.Proofs.Ytkjkegjekfebpaa

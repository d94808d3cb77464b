/- Package spans: leanRight, leanLeft of every tree; balance. -/
import Derived.Test.YtkjkegjekfebpaaSnC
namespace Go.Proofs.Ytkjkegjekfebpaa
open Go.RowKit Spn

theorem tree_deep {w : World} {p : Option Addr} {t : Tr} (h : Tree w p t) (hd : 0 < t.deep) : ∃ b a pl pr l r, p = some ⟨b, 0, none⟩ ∧ t = .node l a r ∧ Node w b a pl pr (Tr.node l a r).deep ∧ Tree w pl l ∧ Tree w pr r := by
  cases t with
  | nil => simp [Tr.deep] at hd
  | node l a r => obtain ⟨b, pl, pr, e, hn, hl, hr⟩ := h; exact ⟨b, a, pl, pr, l, r, e, rfl, hn, hl, hr⟩
theorem leanRight_any (pl pr : Option Addr) (f g : Int) (l r : Tr) (w : World) (hl : Tree w pl l) (hr : Tree w pr r) (bl : l.Bal) (br : r.Bal) (h : l.deep = r.deep + 2) (hd : l.deep ≤ 10000000) :
    Calls Try.prog 66 #[.pointer pl, .agg #[.int .i64 f, .int .i64 g], .pointer pr] w (Grows w (Leant l (f, g) r (r.deep + 2))) := by
  obtain ⟨b, ⟨x, y⟩, po, pm, o, m, rfl, rfl, hn, ho, hm⟩ := tree_deep hl (by omega)
  have e : (Tr.node o (x, y) m).deep = 1 + max o.deep m.deep := rfl
  by_cases hc : m.deep ≤ o.deep
  · exact (leanR_one pr f g b po pm x y o m r _ w hn ho hr hm hc (by omega) (by omega) (by omega)).mono fun _ _ hh => hh.to (lean_r1 o m r (x, y) (f, g) bl br h hc)
  · obtain ⟨k, ⟨u, v⟩, pml, pmr, ml, mr, rfl, rfl, hk, hml, hmr⟩ := tree_deep hm (by omega)
    exact (leanR_two pr f g b po x y o r _ k pml pmr u v ml mr w hn ho hr hk hml hmr hc (by omega) (by omega) (by omega)).mono fun _ _ hh => hh.to (lean_r2 o ml mr r (x, y) (u, v) (f, g) bl br h hc)
theorem leanLeft_any (pl pr : Option Addr) (f g : Int) (l r : Tr) (w : World) (hl : Tree w pl l) (hr : Tree w pr r) (bl : l.Bal) (br : r.Bal) (h : r.deep = l.deep + 2) (hd : r.deep ≤ 10000000) :
    Calls Try.prog 67 #[.pointer pl, .agg #[.int .i64 f, .int .i64 g], .pointer pr] w (Grows w (Leant l (f, g) r (l.deep + 2))) := by
  obtain ⟨b, ⟨x, y⟩, pm, po, m, o, rfl, rfl, hn, hm, ho⟩ := tree_deep hr (by omega)
  have e : (Tr.node m (x, y) o).deep = 1 + max m.deep o.deep := rfl
  by_cases hc : m.deep ≤ o.deep
  · exact (leanL_one pl f g b po pm x y o m l _ w hn ho hl hm hc (by omega) (by omega) (by omega)).mono fun _ _ hh => hh.to (lean_l1 l m o (f, g) (x, y) bl br h hc)
  · obtain ⟨k, ⟨u, v⟩, pml, pmr, ml, mr, rfl, rfl, hk, hml, hmr⟩ := tree_deep hm (by omega)
    exact (leanL_two pl f g b po x y o l _ k pml pmr u v ml mr w hn ho hl hk hml hmr hc (by omega) (by omega) (by omega)).mono fun _ _ hh => hh.to (lean_l2 l ml mr o (f, g) (u, v) (x, y) bl br h hc)

/-- what balance makes. -/
def Balanced (l : Tr) (a : Sp) (r t : Tr) : Prop := t.row = l.row ++ a :: r.row ∧ t.Bal ∧ l.deep ≤ t.deep ∧ r.deep ≤ t.deep ∧ t.deep ≤ 1 + max l.deep r.deep ∧ (l.deep ≤ r.deep + 1 → r.deep ≤ l.deep + 1 → t.deep = 1 + max l.deep r.deep)
theorem Grows.imp {W w : World} {e : Ending} {R R' : Tr → Prop} (h : Grows W R e w) (hi : ∀ t, R t → R' t) : Grows W R' e w := by
  obtain ⟨p, t, he, ht, hr, hb⟩ := h
  exact ⟨p, t, he, ht, hi t hr, hb⟩
theorem Grows.from {W0 W w : World} {e : Ending} {R : Tr → Prop} (h : Grows W R e w) (hb : Below W0.heap.size W0 W) : Grows W0 R e w := by
  obtain ⟨p, t, he, ht, hr, hb'⟩ := h
  exact ⟨p, t, he, ht, hr, andthen hb hb'⟩
theorem balanced_r {l r t : Tr} {a : Sp} (h : l.deep = r.deep + 2) (ht : Leant l a r (r.deep + 2) t) : Balanced l a r t := by
  obtain ⟨h1, h2, h3, h4⟩ := ht
  exact ⟨h1, h2, by omega, by omega, by omega, fun _ _ => by omega⟩
theorem balanced_l {l r t : Tr} {a : Sp} (h : r.deep = l.deep + 2) (ht : Leant l a r (l.deep + 2) t) : Balanced l a r t := by
  obtain ⟨h1, h2, h3, h4⟩ := ht
  exact ⟨h1, h2, by omega, by omega, by omega, fun _ _ => by omega⟩
theorem balanced_n {l r : Tr} {a : Sp} (bl : l.Bal) (br : r.Bal) (h1 : l.deep ≤ r.deep + 1) (h2 : r.deep ≤ l.deep + 1) : Balanced l a r (.node l a r) :=
  ⟨rfl, ⟨h1, h2, bl, br⟩, by simp only [Tr.deep]; omega, by simp only [Tr.deep]; omega, by simp only [Tr.deep]; omega, fun _ _ => rfl⟩

set_option maxRecDepth 100000 in
set_option maxHeartbeats 1600000 in
theorem balance_any (pl pr : Option Addr) (f g : Int) (l r : Tr) (w : World) (hl : Tree w pl l) (hr : Tree w pr r) (bl : l.Bal) (br : r.Bal) (h1 : l.deep ≤ r.deep + 2) (h2 : r.deep ≤ l.deep + 2) (hd1 : l.deep ≤ 1000000) (hd2 : r.deep ≤ 1000000) :
    Calls Try.prog 61 #[.pointer pl, .agg #[.int .i64 f, .int .i64 g], .pointer pr] w (Grows w (Balanced l (f, g) r)) := by
  have hbx := more (start w) (.cells #[.int .i64 f, .int .i64 g] 25)
  have HL := hide (hl.keep hbx)
  have HR := hide (hr.keep hbx)
  have HBL := hide bl
  have HBR := hide br
  clear hl hr bl br
  by_cases c1 : r.deep + 1 < l.deep
  · have e : l.deep = r.deep + 2 := by omega
    have HE := hide e
    have c1' : (r.deep : Int) + 1 < (l.deep : Int) := by omega
    clear e
    go_enter Try.func61, Try.ntmps61
    go_wp2_with fail
    refine (deep_any pl l _ HL.out).mono ?_
    rintro e w1 ⟨rfl, rfl⟩
    go_wp2_with fail
    refine (deep_any pr r _ HR.out).mono ?_
    rintro e w1 ⟨rfl, rfl⟩
    go_wp2_with fail
    refine (leanRight_any pl pr f g l r _ HL.out HR.out HBL.out HBR.out HE.out (by omega)).mono ?_
    rintro e w1 ⟨p1, t1, rfl, hT, hR, hb⟩
    go_wp2_with fail
    go_ret
    exact ⟨_, _, rfl, hT, balanced_r HE.out hR, andthen hbx hb⟩
  · have c1' : ¬ (r.deep : Int) + 1 < (l.deep : Int) := by omega
    by_cases c2 : l.deep + 1 < r.deep
    · have e : r.deep = l.deep + 2 := by omega
      have HE := hide e
      have c2' : (l.deep : Int) + 1 < (r.deep : Int) := by omega
      clear e
      go_enter Try.func61, Try.ntmps61
      go_wp2_with fail
      refine (deep_any pl l _ HL.out).mono ?_
      rintro e w1 ⟨rfl, rfl⟩
      go_wp2_with fail
      refine (deep_any pr r _ HR.out).mono ?_
      rintro e w1 ⟨rfl, rfl⟩
      go_wp2_with fail
      refine (deep_any pr r _ HR.out).mono ?_
      rintro e w1 ⟨rfl, rfl⟩
      go_wp2_with fail
      refine (deep_any pl l _ HL.out).mono ?_
      rintro e w1 ⟨rfl, rfl⟩
      go_wp2_with fail
      refine (leanLeft_any pl pr f g l r _ HL.out HR.out HBL.out HBR.out HE.out (by omega)).mono ?_
      rintro e w1 ⟨p1, t1, rfl, hT, hR, hb⟩
      go_wp2_with fail
      go_ret
      exact ⟨_, _, rfl, hT, balanced_l HE.out hR, andthen hbx hb⟩
    · have c2' : ¬ (l.deep : Int) + 1 < (r.deep : Int) := by omega
      go_enter Try.func61, Try.ntmps61
      go_wp2_with fail
      refine (deep_any pl l _ HL.out).mono ?_
      rintro e w1 ⟨rfl, rfl⟩
      go_wp2_with fail
      refine (deep_any pr r _ HR.out).mono ?_
      rintro e w1 ⟨rfl, rfl⟩
      go_wp2_with fail
      refine (deep_any pr r _ HR.out).mono ?_
      rintro e w1 ⟨rfl, rfl⟩
      go_wp2_with fail
      refine (deep_any pl l _ HL.out).mono ?_
      rintro e w1 ⟨rfl, rfl⟩
      go_wp2_with fail
      refine (newNode_any pl pr f g l r _ HL.out HR.out (by omega) (by omega)).mono ?_
      rintro e w1 ⟨p1, rfl, hT, hb⟩
      go_wp2_with fail
      go_ret
      exact ⟨_, _, rfl, hT, balanced_n HBL.out HBR.out (by omega) (by omega), andthen hbx hb⟩
end Go.Proofs.Ytkjkegjekfebpaa

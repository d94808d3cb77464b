/- TnD; TnE; TnF; TnG of the recipes, what is needed of them. -/
import Derived.LoopTactic
import Derived.Test.YtphojcnehgdbmaaBS6
namespace Go.Proofs.Ytphojcnehgdbmaa.S2
open Go.RowKit Spn

theorem tree_deep {w : World} {p : Option Addr} {t : Tr} (h : Tree w p t) (hd : 0 < t.deep) : ∃ b a pl pr l r, p = some ⟨b, 0, none⟩ ∧ t = .node l a r ∧ Node w b a pl pr (Tr.node l a r).deep ∧ Tree w pl l ∧ Tree w pr r := by
  cases t with
  | nil => simp [Tr.deep] at hd
  | node l a r => obtain ⟨b, pl, pr, e, hn, hl, hr⟩ := h; exact ⟨b, a, pl, pr, l, r, e, rfl, hn, hl, hr⟩
theorem leanRight_any (pl pr : Option Addr) (f g : Int) (l r : Tr) (w : World) (hl : Tree w pl l) (hr : Tree w pr r) (bl : l.Bal) (br : r.Bal) (h : l.deep = r.deep + 2) (hd : l.deep ≤ 10000000) :
    Calls Try.prog 82 #[.pointer pl, .agg #[.int .i64 f, .int .i64 g], .pointer pr] w (Grows w (Leant l (f, g) r (r.deep + 2))) := by
  obtain ⟨b, ⟨x, y⟩, po, pm, o, m, rfl, rfl, hn, ho, hm⟩ := tree_deep hl (by omega)
  have e : (Tr.node o (x, y) m).deep = 1 + max o.deep m.deep := rfl
  by_cases hc : m.deep ≤ o.deep
  · exact (leanR_one pr f g b po pm x y o m r _ w hn ho hr hm hc (by omega) (by omega) (by omega)).mono fun _ _ hh => hh.to (lean_r1 o m r (x, y) (f, g) bl br h hc)
  · obtain ⟨k, ⟨u, v⟩, pml, pmr, ml, mr, rfl, rfl, hk, hml, hmr⟩ := tree_deep hm (by omega)
    exact (leanR_two pr f g b po x y o r _ k pml pmr u v ml mr w hn ho hr hk hml hmr hc (by omega) (by omega) (by omega)).mono fun _ _ hh => hh.to (lean_r2 o ml mr r (x, y) (u, v) (f, g) bl br h hc)
theorem leanLeft_any (pl pr : Option Addr) (f g : Int) (l r : Tr) (w : World) (hl : Tree w pl l) (hr : Tree w pr r) (bl : l.Bal) (br : r.Bal) (h : r.deep = l.deep + 2) (hd : r.deep ≤ 10000000) :
    Calls Try.prog 83 #[.pointer pl, .agg #[.int .i64 f, .int .i64 g], .pointer pr] w (Grows w (Leant l (f, g) r (l.deep + 2))) := by
  obtain ⟨b, ⟨x, y⟩, pm, po, m, o, rfl, rfl, hn, hm, ho⟩ := tree_deep hr (by omega)
  have e : (Tr.node m (x, y) o).deep = 1 + max m.deep o.deep := rfl
  by_cases hc : m.deep ≤ o.deep
  · exact (leanL_one pl f g b po pm x y o m l _ w hn ho hl hm hc (by omega) (by omega) (by omega)).mono fun _ _ hh => hh.to (lean_l1 l m o (f, g) (x, y) bl br h hc)
  · obtain ⟨k, ⟨u, v⟩, pml, pmr, ml, mr, rfl, rfl, hk, hml, hmr⟩ := tree_deep hm (by omega)
    exact (leanL_two pl f g b po x y o l _ k pml pmr u v ml mr w hn ho hl hk hml hmr hc (by omega) (by omega) (by omega)).mono fun _ _ hh => hh.to (lean_l2 l ml mr o (f, g) (u, v) (x, y) bl br h hc)

/-- what balance makes. -/
def Balanced (l : Tr) (a : Sp) (r t : Tr) : Prop := t.row = l.row ++ a :: r.row ∧ t.Bal ∧ l.deep ≤ t.deep ∧ r.deep ≤ t.deep ∧ t.deep ≤ 1 + max l.deep r.deep ∧ (l.deep ≤ r.deep + 1 → r.deep ≤ l.deep + 1 → t.deep = 1 + max l.deep r.deep)
theorem Grows.imp {W w : World} {e : Ending} {R R' : Tr → Prop} (h : Grows W R e w) (hi : ∀ t, R t → R' t) : Grows W R' e w := by
  obtain ⟨p, t, he, ht, hr, hb⟩ := h
  exact ⟨p, t, he, ht, hi t hr, hb⟩
theorem Grows.from {W0 W w : World} {e : Ending} {R : Tr → Prop} (h : Grows W R e w) (hb : Below W0.heap.size W0 W) : Grows W0 R e w := by
  obtain ⟨p, t, he, ht, hr, hb'⟩ := h
  exact ⟨p, t, he, ht, hr, andthen hb hb'⟩
theorem balanced_r {l r t : Tr} {a : Sp} (h : l.deep = r.deep + 2) (ht : Leant l a r (r.deep + 2) t) : Balanced l a r t := by
  obtain ⟨h1, h2, h3, h4⟩ := ht
  exact ⟨h1, h2, by omega, by omega, by omega, fun _ _ => by omega⟩
theorem balanced_l {l r t : Tr} {a : Sp} (h : r.deep = l.deep + 2) (ht : Leant l a r (l.deep + 2) t) : Balanced l a r t := by
  obtain ⟨h1, h2, h3, h4⟩ := ht
  exact ⟨h1, h2, by omega, by omega, by omega, fun _ _ => by omega⟩
theorem balanced_n {l r : Tr} {a : Sp} (bl : l.Bal) (br : r.Bal) (h1 : l.deep ≤ r.deep + 1) (h2 : r.deep ≤ l.deep + 1) : Balanced l a r (.node l a r) :=
  ⟨rfl, ⟨h1, h2, bl, br⟩, by simp only [Tr.deep]; omega, by simp only [Tr.deep]; omega, by simp only [Tr.deep]; omega, fun _ _ => rfl⟩

set_option maxRecDepth 100000 in
set_option maxHeartbeats 1600000 in
theorem balance_any (pl pr : Option Addr) (f g : Int) (l r : Tr) (w : World) (hl : Tree w pl l) (hr : Tree w pr r) (bl : l.Bal) (br : r.Bal) (h1 : l.deep ≤ r.deep + 2) (h2 : r.deep ≤ l.deep + 2) (hd1 : l.deep ≤ 1000000) (hd2 : r.deep ≤ 1000000) :
    Calls Try.prog 72 #[.pointer pl, .agg #[.int .i64 f, .int .i64 g], .pointer pr] w (Grows w (Balanced l (f, g) r)) := by
  have hbx := more (start w) (.cells #[.int .i64 f, .int .i64 g] 52)
  have HL := hide (hl.keep hbx)
  have HR := hide (hr.keep hbx)
  have HBL := hide bl
  have HBR := hide br
  clear hl hr bl br
  by_cases c1 : r.deep + 1 < l.deep
  · have e : l.deep = r.deep + 2 := by omega
    have HE := hide e
    have c1' : (r.deep : Int) + 1 < (l.deep : Int) := by omega
    clear e
    go_enter Try.func72, Try.ntmps72
    go_wp2_with fail
    refine (deep_any pl l _ HL.out).mono ?_
    rintro e w1 ⟨rfl, rfl⟩
    go_wp2_with fail
    refine (deep_any pr r _ HR.out).mono ?_
    rintro e w1 ⟨rfl, rfl⟩
    go_wp2_with fail
    refine (leanRight_any pl pr f g l r _ HL.out HR.out HBL.out HBR.out HE.out (by omega)).mono ?_
    rintro e w1 ⟨p1, t1, rfl, hT, hR, hb⟩
    go_wp2_with fail
    go_ret
    exact ⟨_, _, rfl, hT, balanced_r HE.out hR, andthen hbx hb⟩
  · have c1' : ¬ (r.deep : Int) + 1 < (l.deep : Int) := by omega
    by_cases c2 : l.deep + 1 < r.deep
    · have e : r.deep = l.deep + 2 := by omega
      have HE := hide e
      have c2' : (l.deep : Int) + 1 < (r.deep : Int) := by omega
      clear e
      go_enter Try.func72, Try.ntmps72
      go_wp2_with fail
      refine (deep_any pl l _ HL.out).mono ?_
      rintro e w1 ⟨rfl, rfl⟩
      go_wp2_with fail
      refine (deep_any pr r _ HR.out).mono ?_
      rintro e w1 ⟨rfl, rfl⟩
      go_wp2_with fail
      refine (deep_any pr r _ HR.out).mono ?_
      rintro e w1 ⟨rfl, rfl⟩
      go_wp2_with fail
      refine (deep_any pl l _ HL.out).mono ?_
      rintro e w1 ⟨rfl, rfl⟩
      go_wp2_with fail
      refine (leanLeft_any pl pr f g l r _ HL.out HR.out HBL.out HBR.out HE.out (by omega)).mono ?_
      rintro e w1 ⟨p1, t1, rfl, hT, hR, hb⟩
      go_wp2_with fail
      go_ret
      exact ⟨_, _, rfl, hT, balanced_l HE.out hR, andthen hbx hb⟩
    · have c2' : ¬ (l.deep : Int) + 1 < (r.deep : Int) := by omega
      go_enter Try.func72, Try.ntmps72
      go_wp2_with fail
      refine (deep_any pl l _ HL.out).mono ?_
      rintro e w1 ⟨rfl, rfl⟩
      go_wp2_with fail
      refine (deep_any pr r _ HR.out).mono ?_
      rintro e w1 ⟨rfl, rfl⟩
      go_wp2_with fail
      refine (deep_any pr r _ HR.out).mono ?_
      rintro e w1 ⟨rfl, rfl⟩
      go_wp2_with fail
      refine (deep_any pl l _ HL.out).mono ?_
      rintro e w1 ⟨rfl, rfl⟩
      go_wp2_with fail
      refine (newNode_any pl pr f g l r _ HL.out HR.out (by omega) (by omega)).mono ?_
      rintro e w1 ⟨p1, rfl, hT, hb⟩
      go_wp2_with fail
      go_ret
      exact ⟨_, _, rfl, hT, balanced_n HBL.out HBR.out (by omega) (by omega), andthen hbx hb⟩
end Go.Proofs.Ytphojcnehgdbmaa.S2
namespace Go.Proofs.Ytphojcnehgdbmaa.S2
open Go.RowKit Spn

/-- what join makes. -/
def Joined (l : Tr) (a : Sp) (r t : Tr) : Prop := t.row = l.row ++ a :: r.row ∧ t.Bal ∧ l.deep ≤ t.deep ∧ r.deep ≤ t.deep ∧ t.deep ≤ 1 + max l.deep r.deep
theorem joined_r {o m r t2 t : Tr} {a b : Sp} (bl : (Tr.node o b m).Bal) (h : r.deep + 1 < (Tr.node o b m).deep) (h2 : Joined m a r t2) (ht : Balanced o b t2 t) : Joined (.node o b m) a r t := by
  obtain ⟨b1, b2, b3, b4⟩ := bl
  obtain ⟨g1, g2, g3, g4, g5⟩ := h2
  obtain ⟨k1, k2, k3, k4, k5, k6⟩ := ht
  simp only [Tr.deep] at h
  refine ⟨by rw [k1, g1]; simp [Tr.row], k2, ?_, ?_, ?_⟩
  · simp only [Tr.deep]; omega
  · omega
  · simp only [Tr.deep]; omega
theorem joined_l {o m l t2 t : Tr} {a b : Sp} (br : (Tr.node m b o).Bal) (h : l.deep + 1 < (Tr.node m b o).deep) (h2 : Joined l a m t2) (ht : Balanced t2 b o t) : Joined l a (.node m b o) t := by
  obtain ⟨b1, b2, b3, b4⟩ := br
  obtain ⟨g1, g2, g3, g4, g5⟩ := h2
  obtain ⟨k1, k2, k3, k4, k5, k6⟩ := ht
  simp only [Tr.deep] at h
  refine ⟨by rw [k1, g1]; simp [Tr.row], k2, ?_, ?_, ?_⟩
  · omega
  · simp only [Tr.deep]; omega
  · simp only [Tr.deep]; omega
theorem joined_n {l r : Tr} {a : Sp} (bl : l.Bal) (br : r.Bal) (h1 : l.deep ≤ r.deep + 1) (h2 : r.deep ≤ l.deep + 1) : Joined l a r (.node l a r) :=
  ⟨rfl, ⟨h1, h2, bl, br⟩, by simp only [Tr.deep]; omega, by simp only [Tr.deep]; omega, by simp only [Tr.deep]; omega⟩
theorem joined_b {l r t : Tr} {a : Sp} (h : Joined l a r t) : t.Bal := h.2.1
theorem joined_d {l r t : Tr} {a : Sp} (h : Joined l a r t) : t.deep ≤ 1 + max l.deep r.deep ∧ l.deep ≤ t.deep ∧ r.deep ≤ t.deep := ⟨h.2.2.2.2, h.2.2.1, h.2.2.2.1⟩

set_option maxRecDepth 100000 in
set_option maxHeartbeats 1600000 in
theorem join_any (n : Nat) : ∀ (pl pr : Option Addr) (f g : Int) (l r : Tr) (w : World), Tree w pl l → Tree w pr r → l.Bal → r.Bal → l.deep + r.deep ≤ n → l.deep ≤ 900000 → r.deep ≤ 900000 →
    Calls Try.prog 59 #[.pointer pl, .agg #[.int .i64 f, .int .i64 g], .pointer pr] w (Grows w (Joined l (f, g) r)) := by
  induction n using Nat.strongRecOn with
  | _ n IH =>
  intro pl pr f g l r w hl hr bl br hn hd1 hd2
  have hbx := more (start w) (.cells #[.int .i64 f, .int .i64 g] 52)
  have HL := hide (hl.keep hbx)
  have HR := hide (hr.keep hbx)
  have HBL := hide bl
  have HBR := hide br
  have hcx0 : (w.alloc (.cells #[.int .i64 f, .int .i64 g] 52)).cell? ⟨w.heap.size, 0, none⟩ = some (.int .i64 f) := by rw [World.cell?_alloc_at _ _ _ _ rfl]; rfl
  have hcx1 : (w.alloc (.cells #[.int .i64 f, .int .i64 g] 52)).cell? ⟨w.heap.size, 1, none⟩ = some (.int .i64 g) := by rw [World.cell?_alloc_at _ _ _ _ rfl]; rfl
  by_cases c1 : r.deep + 1 < l.deep
  · obtain ⟨b, ⟨x, y⟩, po, pm, o, m, rfl, rfl, hnd, ho, hm⟩ := tree_deep hl (by omega)
    have e : (Tr.node o (x, y) m).deep = 1 + max o.deep m.deep := rfl
    obtain ⟨bl1, bl2, bl3, bl4⟩ := bl
    have HB3 := hide bl3
    have HB4 := hide bl4
    have ih := IH (m.deep + r.deep) (by omega)
    obtain ⟨hlt, c0, c1_, c2, c3, c4⟩ := hnd
    have HS : (w.alloc (.cells #[.int .i64 f, .int .i64 g] 52)).cell? ⟨w.heap.size, 0, none⟩ = some (.int .i64 f) ∧ (w.alloc (.cells #[.int .i64 f, .int .i64 g] 52)).cell? ⟨w.heap.size, 1, none⟩ = some (.int .i64 g) ∧ (w.alloc (.cells #[.int .i64 f, .int .i64 g] 52)).cell? ⟨b, 0, none⟩ = some (.int .i64 x) ∧ (w.alloc (.cells #[.int .i64 f, .int .i64 g] 52)).cell? ⟨b, 1, none⟩ = some (.int .i64 y) ∧ (w.alloc (.cells #[.int .i64 f, .int .i64 g] 52)).cell? ⟨b, 2, none⟩ = some (.pointer po) ∧ (w.alloc (.cells #[.int .i64 f, .int .i64 g] 52)).cell? ⟨b, 3, none⟩ = some (.pointer pm) :=
      ⟨hcx0, hcx1, cell_keep hbx c0, cell_keep hbx c1_, cell_keep hbx c2, cell_keep hbx c3⟩
    have HO := hide (ho.keep hbx)
    have HM := hide (hm.keep hbx)
    have c1' : (r.deep : Int) + 1 < ((Tr.node o (x, y) m).deep : Int) := by omega
    have g1 : m.deep ≤ 900000 := by omega
    have g2 : o.deep ≤ 900000 := by omega
    have g3 : m.deep ≤ o.deep + 1 := bl2
    have g4 : o.deep ≤ m.deep + 1 := bl1
    have g5 : r.deep ≤ m.deep := by omega
    have HC1 := hide c1
    have HD := hide e
    clear hl hr ho hm c0 c1_ c2 c3 c4 hcx0 hcx1 e IH bl1 bl2 bl3 bl4 br
    generalize hD : (Tr.node o (x, y) m).deep = D at *
    have HDD := hide hD
    clear hD
    go_enter Try.func59, Try.ntmps59
    go_wp2_with fail
    refine (deep_any _ (.node o (x, y) m) _ HL.out).mono ?_
    rw [HDD.out]
    rintro e w1 ⟨rfl, rfl⟩
    go_wp2_with fail
    refine (deep_any pr r _ HR.out).mono ?_
    rintro e w1 ⟨rfl, rfl⟩
    go_wp2_with fail
    go_region_held3 (fun w' => w'.cell? ⟨w.heap.size, 0, none⟩ = some (.int .i64 f) ∧ w'.cell? ⟨w.heap.size, 1, none⟩ = some (.int .i64 g) ∧ w'.cell? ⟨b, 0, none⟩ = some (.int .i64 x) ∧ w'.cell? ⟨b, 1, none⟩ = some (.int .i64 y) ∧ w'.cell? ⟨b, 2, none⟩ = some (.pointer po) ∧ w'.cell? ⟨b, 3, none⟩ = some (.pointer pm)) (first | exact keep6 (by assumption) (by assumption) | exact keep6 (start _).drew (by assumption)) ((first | (go_at_call 59; (with_reducible refine (ih pm pr f g m r _ (HM.out.keep (start _).drew) (HR.out.keep (start _).drew) HB4.out HBR.out (by omega) (by omega) (by omega)).mono ?_); rintro e w2 ⟨p2, t2, rfl, hT2, hR2, hb2⟩) | (go_at_call 72; (with_reducible refine (balance_any po p2 x y o t2 _ (HO.out.keep (andthen (start _).drew hb2)) hT2 HB3.out (joined_b hR2) (by have := joined_d hR2; omega) (by have := joined_d hR2; omega) (by have := joined_d hR2; omega) (by have := joined_d hR2; omega)).mono ?_); rintro e w3 ⟨p3, t3, rfl, hT3, hR3, hb3⟩)))
    go_wp2_with fail
    go_ret
    exact ⟨_, _, rfl, hT3, joined_r HBL.out (by rw [HDD.out]; exact HC1.out) hR2 hR3, andthen (andthen hbx.drew hb2) hb3⟩
  · have c1' : ¬ (r.deep : Int) + 1 < (l.deep : Int) := by omega
    by_cases c2 : l.deep + 1 < r.deep
    · obtain ⟨b, ⟨x, y⟩, pm, po, m, o, rfl, rfl, hnd, hm, ho⟩ := tree_deep hr (by omega)
      have e : (Tr.node m (x, y) o).deep = 1 + max m.deep o.deep := rfl
      obtain ⟨br1, br2, br3, br4⟩ := br
      have HB3 := hide br3
      have HB4 := hide br4
      have ih := IH (l.deep + m.deep) (by omega)
      obtain ⟨hlt, c0, c1_, c2_, c3, c4⟩ := hnd
      have HS : (w.alloc (.cells #[.int .i64 f, .int .i64 g] 52)).cell? ⟨w.heap.size, 0, none⟩ = some (.int .i64 f) ∧ (w.alloc (.cells #[.int .i64 f, .int .i64 g] 52)).cell? ⟨w.heap.size, 1, none⟩ = some (.int .i64 g) ∧ (w.alloc (.cells #[.int .i64 f, .int .i64 g] 52)).cell? ⟨b, 0, none⟩ = some (.int .i64 x) ∧ (w.alloc (.cells #[.int .i64 f, .int .i64 g] 52)).cell? ⟨b, 1, none⟩ = some (.int .i64 y) ∧ (w.alloc (.cells #[.int .i64 f, .int .i64 g] 52)).cell? ⟨b, 2, none⟩ = some (.pointer pm) ∧ (w.alloc (.cells #[.int .i64 f, .int .i64 g] 52)).cell? ⟨b, 3, none⟩ = some (.pointer po) :=
        ⟨hcx0, hcx1, cell_keep hbx c0, cell_keep hbx c1_, cell_keep hbx c2_, cell_keep hbx c3⟩
      have HO := hide (ho.keep hbx)
      have HM := hide (hm.keep hbx)
      have c2' : (l.deep : Int) + 1 < ((Tr.node m (x, y) o).deep : Int) := by omega
      have g1 : m.deep ≤ 900000 := by omega
      have g2 : o.deep ≤ 900000 := by omega
      have g3 : m.deep ≤ o.deep + 1 := br1
      have g4 : o.deep ≤ m.deep + 1 := br2
      have g5 : l.deep ≤ m.deep := by omega
      have HC2 := hide c2
      clear hl hr ho hm c0 c1_ c2_ c3 c4 hcx0 hcx1 e IH br1 br2 br3 br4 bl
      generalize hD : (Tr.node m (x, y) o).deep = D at *
      have HDD := hide hD
      clear hD
      go_enter Try.func59, Try.ntmps59
      go_wp2_with fail
      refine (deep_any pl l _ HL.out).mono ?_
      rintro e w1 ⟨rfl, rfl⟩
      go_wp2_with fail
      refine (deep_any _ (.node m (x, y) o) _ HR.out).mono ?_
      rw [HDD.out]
      rintro e w1 ⟨rfl, rfl⟩
      go_wp2_with fail
      refine (deep_any _ (.node m (x, y) o) _ HR.out).mono ?_
      rw [HDD.out]
      rintro e w1 ⟨rfl, rfl⟩
      go_wp2_with fail
      refine (deep_any pl l _ HL.out).mono ?_
      rintro e w1 ⟨rfl, rfl⟩
      go_wp2_with fail
      go_region_held3 (fun w' => w'.cell? ⟨w.heap.size, 0, none⟩ = some (.int .i64 f) ∧ w'.cell? ⟨w.heap.size, 1, none⟩ = some (.int .i64 g) ∧ w'.cell? ⟨b, 0, none⟩ = some (.int .i64 x) ∧ w'.cell? ⟨b, 1, none⟩ = some (.int .i64 y) ∧ w'.cell? ⟨b, 2, none⟩ = some (.pointer pm) ∧ w'.cell? ⟨b, 3, none⟩ = some (.pointer po)) (first | exact keep6 (by assumption) (by assumption) | exact keep6 (start _).drew (by assumption)) ((first | (go_at_call 59; (with_reducible refine (ih pl pm f g l m _ (HL.out.keep (start _).drew) (HM.out.keep (start _).drew) HBL.out HB3.out (by omega) (by omega) (by omega)).mono ?_); rintro e w2 ⟨p2, t2, rfl, hT2, hR2, hb2⟩) | (go_at_call 72; (with_reducible refine (balance_any p2 po x y t2 o _ hT2 (HO.out.keep (andthen (start _).drew hb2)) (joined_b hR2) HB4.out (by have := joined_d hR2; omega) (by have := joined_d hR2; omega) (by have := joined_d hR2; omega) (by have := joined_d hR2; omega)).mono ?_); rintro e w3 ⟨p3, t3, rfl, hT3, hR3, hb3⟩)))
      go_wp2_with fail
      go_ret
      exact ⟨_, _, rfl, hT3, joined_l HBR.out (by rw [HDD.out]; exact HC2.out) hR2 hR3, andthen (andthen hbx.drew hb2) hb3⟩
    · have c2' : ¬ (l.deep : Int) + 1 < (r.deep : Int) := by omega
      clear hl hr IH bl br
      go_enter Try.func59, Try.ntmps59
      go_wp2_with fail
      refine (deep_any pl l _ HL.out).mono ?_
      rintro e w1 ⟨rfl, rfl⟩
      go_wp2_with fail
      refine (deep_any pr r _ HR.out).mono ?_
      rintro e w1 ⟨rfl, rfl⟩
      go_wp2_with fail
      refine (deep_any pr r _ HR.out).mono ?_
      rintro e w1 ⟨rfl, rfl⟩
      go_wp2_with fail
      refine (deep_any pl l _ HL.out).mono ?_
      rintro e w1 ⟨rfl, rfl⟩
      go_wp2_with fail
      refine (newNode_any pl pr f g l r _ HL.out HR.out (by omega) (by omega)).mono ?_
      rintro e w1 ⟨p1, rfl, hT, hb⟩
      go_wp2_with fail
      go_ret
      exact ⟨_, _, rfl, hT, joined_n HBL.out HBR.out (by omega) (by omega), andthen hbx hb⟩
end Go.Proofs.Ytphojcnehgdbmaa.S2
namespace Go.Proofs.Ytphojcnehgdbmaa.S2
open Go.RowKit Spn

/-- a balanced tree of this row. -/
def Of' (l : List Sp) (t : Tr) : Prop := t.row = l ∧ t.Bal
theorem of_bal {l : List Sp} {t : Tr} (h : Of' l t) : t.Bal := h.2
theorem of_deep {l : List Sp} {t : Tr} (h : Of' l t) : t.deep ≤ l.length := by rw [← h.1]; exact Tr.deep_le t

set_option maxRecDepth 100000 in
set_option maxHeartbeats 1600000 in
theorem ending_any (t : Tr) : ∀ (p : Option Addr) (k : Int) (w : World), Tree w p t → t.Bal → Neat t.row → t.row.length ≤ 800000 →
    Calls Try.prog 57 #[.pointer p, .int .i64 k] w (Grows w (Of' (bef t.row k))) := by
  induction t with
  | nil =>
    intro p k w h _ _ _
    obtain rfl : p = none := h
    go_enter Try.func57, Try.ntmps57
    go_wp2_with fail
    go_ret
    exact ⟨none, .nil, rfl, rfl, ⟨rfl, trivial⟩, start _⟩
  | node l a r ihl ihr =>
    intro p k w h hbal hneat hlen
    obtain ⟨b, pl, pr, rfl, hn, hl, hr⟩ := h
    obtain ⟨x, y⟩ := a
    obtain ⟨hlt, c0, c1, c2, c3, c4⟩ := hn
    have HBL := hide hbal.2.2.1
    have HBR := hide hbal.2.2.2
    have hmid := neat_mid _ _ _ hneat
    have HNL := hide hmid.2.2.2.1
    have HNR := hide hmid.2.2.2.2
    have HN : Hid (Neat (l.row ++ (x, y) :: r.row)) := hide hneat
    have hll : l.row.length + r.row.length ≤ 799999 := by simp only [Tr.row, List.length_append, List.length_cons] at hlen; omega
    have hdl := Tr.deep_le l
    have hdr := Tr.deep_le r
    have HL := hide hl
    have HR := hide hr
    have hfl := bef_len l.row k
    have hfr := bef_len r.row k
    have IHl := hide ihl
    have IHr := hide ihr
    clear hl hr hmid hneat hbal hlen c4 ihl ihr
    by_cases hc : y < k
    · go_enter Try.func57, Try.ntmps57
      have HS : w.cell? ⟨b, 0, none⟩ = some (.int .i64 x) ∧ w.cell? ⟨b, 1, none⟩ = some (.int .i64 y) ∧ w.cell? ⟨b, 2, none⟩ = some (.pointer pl) ∧ w.cell? ⟨b, 3, none⟩ = some (.pointer pr) := ⟨c0, c1, c2, c3⟩
      go_wp2_with fail
      go_region_held3 (fun w' => w'.cell? ⟨b, 0, none⟩ = some (.int .i64 x) ∧ w'.cell? ⟨b, 1, none⟩ = some (.int .i64 y) ∧ w'.cell? ⟨b, 2, none⟩ = some (.pointer pl) ∧ w'.cell? ⟨b, 3, none⟩ = some (.pointer pr)) (first | exact keep4 (by assumption) (by assumption) | exact keep4 (start _).drew (by assumption)) ((first | (go_at_call 57; (with_reducible refine (IHr.out pr k _ (HR.out.keep (start _).drew) HBR.out HNR.out (by omega)).mono ?_); rintro e w2 ⟨p2, t2, rfl, hT2, hR2, hb2⟩; have hdl2 := of_deep hR2) | (go_at_call 59; (with_reducible refine (join_any _ pl p2 x y l t2 _ (HL.out.keep (andthen (start _).drew hb2)) hT2 HBL.out (of_bal hR2) (Nat.le_refl _) (by omega) (by omega)).mono ?_); rintro e w3 ⟨p3, t3, rfl, hT3, hR3, hb3⟩)))
      go_wp2_with fail
      go_ret
      exact ⟨_, _, rfl, hT3, ⟨by rw [hR3.1, hR2.1]; exact (bef_yes _ _ _ _ HN.out hc).symm, joined_b hR3⟩, andthen (andthen (start _).drew hb2) hb3⟩
    · go_enter Try.func57, Try.ntmps57
      go_wp2_with fail
      refine (IHl.out pl k _ HL.out HBL.out HNL.out (by omega)).mono ?_
      rintro e w2 ⟨p2, t2, rfl, hT2, hR2, hb2⟩
      go_wp2_with fail
      go_ret
      exact ⟨_, _, rfl, hT2, ⟨by rw [hR2.1]; exact (bef_no _ _ _ _ HN.out (Int.not_lt.2 hc)).symm, hR2.2⟩, hb2⟩

set_option maxRecDepth 100000 in
set_option maxHeartbeats 1600000 in
theorem beginning_any (t : Tr) : ∀ (p : Option Addr) (k : Int) (w : World), Tree w p t → t.Bal → Neat t.row → t.row.length ≤ 800000 →
    Calls Try.prog 58 #[.pointer p, .int .i64 k] w (Grows w (Of' (aft t.row k))) := by
  induction t with
  | nil =>
    intro p k w h _ _ _
    obtain rfl : p = none := h
    go_enter Try.func58, Try.ntmps58
    go_wp2_with fail
    go_ret
    exact ⟨none, .nil, rfl, rfl, ⟨rfl, trivial⟩, start _⟩
  | node l a r ihl ihr =>
    intro p k w h hbal hneat hlen
    obtain ⟨b, pl, pr, rfl, hn, hl, hr⟩ := h
    obtain ⟨x, y⟩ := a
    obtain ⟨hlt, c0, c1, c2, c3, c4⟩ := hn
    have HBL := hide hbal.2.2.1
    have HBR := hide hbal.2.2.2
    have hmid := neat_mid _ _ _ hneat
    have HNL := hide hmid.2.2.2.1
    have HNR := hide hmid.2.2.2.2
    have HN : Hid (Neat (l.row ++ (x, y) :: r.row)) := hide hneat
    have hll : l.row.length + r.row.length ≤ 799999 := by simp only [Tr.row, List.length_append, List.length_cons] at hlen; omega
    have hdl := Tr.deep_le l
    have hdr := Tr.deep_le r
    have HL := hide hl
    have HR := hide hr
    have hfl := aft_len l.row k
    have hfr := aft_len r.row k
    have IHl := hide ihl
    have IHr := hide ihr
    clear hl hr hmid hneat hbal hlen c4 ihl ihr
    by_cases hc : k < x
    · go_enter Try.func58, Try.ntmps58
      have HS : w.cell? ⟨b, 0, none⟩ = some (.int .i64 x) ∧ w.cell? ⟨b, 1, none⟩ = some (.int .i64 y) ∧ w.cell? ⟨b, 2, none⟩ = some (.pointer pl) ∧ w.cell? ⟨b, 3, none⟩ = some (.pointer pr) := ⟨c0, c1, c2, c3⟩
      go_wp2_with fail
      go_region_held3 (fun w' => w'.cell? ⟨b, 0, none⟩ = some (.int .i64 x) ∧ w'.cell? ⟨b, 1, none⟩ = some (.int .i64 y) ∧ w'.cell? ⟨b, 2, none⟩ = some (.pointer pl) ∧ w'.cell? ⟨b, 3, none⟩ = some (.pointer pr)) (first | exact keep4 (by assumption) (by assumption) | exact keep4 (start _).drew (by assumption)) ((first | (go_at_call 58; (with_reducible refine (IHl.out pl k _ (HL.out.keep (start _).drew) HBL.out HNL.out (by omega)).mono ?_); rintro e w2 ⟨p2, t2, rfl, hT2, hR2, hb2⟩; have hdl2 := of_deep hR2) | (go_at_call 59; (with_reducible refine (join_any _ p2 pr x y t2 r _ hT2 (HR.out.keep (andthen (start _).drew hb2)) (of_bal hR2) HBR.out (Nat.le_refl _) (by omega) (by omega)).mono ?_); rintro e w3 ⟨p3, t3, rfl, hT3, hR3, hb3⟩)))
      go_wp2_with fail
      go_ret
      exact ⟨_, _, rfl, hT3, ⟨by rw [hR3.1, hR2.1]; exact (aft_yes _ _ _ _ HN.out hc).symm, joined_b hR3⟩, andthen (andthen (start _).drew hb2) hb3⟩
    · go_enter Try.func58, Try.ntmps58
      go_wp2_with fail
      refine (IHr.out pr k _ HR.out HBR.out HNR.out (by omega)).mono ?_
      rintro e w2 ⟨p2, t2, rfl, hT2, hR2, hb2⟩
      go_wp2_with fail
      go_ret
      exact ⟨_, _, rfl, hT2, ⟨by rw [hR2.1]; exact (aft_no _ _ _ _ HN.out (Int.not_lt.2 hc)).symm, hR2.2⟩, hb2⟩
end Go.Proofs.Ytphojcnehgdbmaa.S2
namespace Go.Proofs.Ytphojcnehgdbmaa.S2
open Go.RowKit Spn

/-- the depth that a node stores. -/
def dep (W : World) : Value → Nat
  | .pointer (some a) => match W.cell? ⟨a.block, 4, none⟩ with
    | some (.int _ d) => d.toNat
    | _ => 0
  | _ => 0
theorem dep_tree {w : World} {p : Option Addr} {t : Tr} (h : Tree w p t) : dep w (.pointer p) = t.deep := by
  cases t with
  | nil => obtain rfl : p = none := h; rfl
  | node l a r => obtain ⟨b, pl, pr, rfl, hn, _⟩ := h; simp only [dep, hn.c4]; rfl
/-- what lies at a pointer, and in its row the same span stands first. -/
def Fst (w : World) (T : Tr) (v : Value) : Prop := ∃ b x y pl pr l r, v = .pointer (some ⟨b, 0, none⟩) ∧ Node w b (x, y) pl pr (Tr.node l (x, y) r).deep ∧ Tree w pl l ∧ Tree w pr r ∧ (Tr.node l (x, y) r).row.head? = T.row.head?
theorem fst_dep {w : World} {b : Nat} {x y : Int} {pl pr : Option Addr} {l r : Tr} (hn : Node w b (x, y) pl pr (Tr.node l (x, y) r).deep) : dep w (.pointer (some ⟨b, 0, none⟩)) = (Tr.node l (x, y) r).deep := by
  simp only [dep, hn.c4]; rfl
theorem head_left (l r : Tr) (a : Sp) (h : l.row ≠ []) : (Tr.node l a r).row.head? = l.row.head? := by
  simp only [Tr.row]
  cases hl : l.row with
  | nil => exact absurd hl h
  | cons c s => rfl

set_option maxRecDepth 100000 in
set_option maxHeartbeats 1600000 in
theorem first_any (p : Option Addr) (T : Tr) (w : World) (h : Tree w p T) (x y : Int) (s : List Sp) (hrow : T.row = (x, y) :: s) :
    Calls Try.prog 74 #[.pointer p] w fun e w' => e = .returned (.agg #[.int .i64 x, .int .i64 y]) ∧ Below w.heap.size w w' := by
  have hstart : Fst w T (.pointer p) := by
    cases T with
    | nil => simp [Tr.row] at hrow
    | node l a r =>
      obtain ⟨b, pl, pr, rfl, hn, hl, hr⟩ := h
      obtain ⟨u, v⟩ := a
      exact ⟨b, u, v, pl, pr, l, r, rfl, hn, hl, hr, rfl⟩
  have HST := hide hstart
  have HROW := hide hrow
  clear h hstart hrow
  have hbx := more (start w) (.cells #[.int .i64 0, .int .i64 0] 52)
  have HBX := hide hbx
  clear hbx
  go_enter Try.func74, Try.ntmps74
  go_wp2_with fail
  go_loop [0] (fun v => Fst w T v) (fun v => dep w v)
  case atStart => exact HST.out
  case round =>
    obtain ⟨b, u, v, pl, pr, l, r, rfl, hn, hl, hr, hh⟩ := hrel
    have HN := hide hn
    have HH := hide hh
    have HL := hide hl
    have k0 := cell_keep HBX.out hn.c0
    have k1 := cell_keep HBX.out hn.c1
    have k2 := cell_keep HBX.out hn.c2
    have hlt := hn.lt
    cases l with
    | nil =>
      obtain rfl : pl = none := hl
      clear hn hr hh
      have hne : ¬ b = w.heap.size := by omega
      have hE : (u, v) = (x, y) := by
        have := HH.out
        rw [HROW.out] at this
        simpa [Tr.row] using this
      obtain ⟨rfl, rfl⟩ := Prod.mk.inj hE
      clear hE
      go_wp2_with fail
      exact bodyPost_ret (v := .agg #[.int .i64 u, .int .i64 v]) (by simp [results, Try.results74, go_sem]) rfl ⟨rfl, more (start _) _⟩
    | node l2 a2 r2 =>
      obtain ⟨b2, pl2, pr2, rfl, hn2, hl2, hr2⟩ := hl
      obtain ⟨u2, v2⟩ := a2
      have HN2 := hide hn2
      have HL2 := hide hl2
      have HR2 := hide hr2
      clear hn hr hh hn2 hl2 hr2
      go_wp2_with fail
      go_round
      case rel => exact ⟨b2, u2, v2, pl2, pr2, l2, r2, rfl, HN2.out, HL2.out, HR2.out, by rw [← HH.out]; exact (head_left _ _ _ (by simp [Tr.row])).symm⟩
      case measure =>
        show dep w (.pointer (some ⟨b2, 0, none⟩)) < dep w (.pointer (some ⟨b, 0, none⟩))
        rw [fst_dep HN2.out, fst_dep HN.out]
        simp only [Tr.deep]
        omega

theorem aft_tail (x y : Int) (s : List Sp) (h : Neat ((x, y) :: s)) : aft ((x, y) :: s) x = s := by
  have h2 := aft_no [] s (x, y) x h (by simp)
  rw [List.nil_append] at h2
  rw [h2]
  exact filter_all _ _ fun b hb => decide_eq_true (by have := h.2.1 b hb; have := h.1; unfold Ok at this; simp only at *; omega)

set_option maxRecDepth 100000 in
set_option maxHeartbeats 1600000 in
theorem concat_any (pl pr : Option Addr) (l r : Tr) (w : World) (hl : Tree w pl l) (hr : Tree w pr r) (bl : l.Bal) (br : r.Bal) (hn : Neat r.row) (hdl : l.deep ≤ 800000) (hdr : r.row.length ≤ 800000) :
    Calls Try.prog 60 #[.pointer pl, .pointer pr] w (Grows w (Of' (l.row ++ r.row))) := by
  by_cases h0 : r.row = []
  · have hr0 := Tr.deep_nil r h0
    subst hr0
    obtain rfl : pr = none := hr
    have HL := hide hl
    have HBL := hide bl
    clear hl bl
    go_enter Try.func60, Try.ntmps60
    go_wp2_with fail
    go_ret
    exact ⟨_, _, rfl, HL.out, ⟨by simp [Tr.row], HBL.out⟩, start _⟩
  · obtain ⟨⟨x, y⟩, s, hrow⟩ := List.exists_cons_of_ne_nil h0
    have hpos := Tr.deep_pos r h0
    obtain ⟨b, a, pl2, pr2, l2, r2, rfl, -, -, -, -⟩ := tree_deep hr hpos
    have HL := hide hl
    have HR := hide hr
    have HBL := hide bl
    have HBR := hide br
    have HN := hide hn
    have HROW := hide hrow
    have hal := aft_len r.row x
    have HA := hide (aft_tail x y s (by rw [← hrow]; exact hn))
    clear hl hr bl br hn hrow h0 hpos
    go_enter Try.func60, Try.ntmps60
    go_wp2_with fail
    refine (first_any _ r _ HR.out x y s HROW.out).mono ?_
    rintro e w1 ⟨rfl, hb1⟩
    go_wp2_with fail
    have hbx := andthen hb1 (more (start w1) (.cells #[.int .i64 x, .int .i64 y] 52))
    have HS : (w1.alloc (.cells #[.int .i64 x, .int .i64 y] 52)).cell? ⟨w1.heap.size, 0, none⟩ = some (.int .i64 x) ∧ (w1.alloc (.cells #[.int .i64 x, .int .i64 y] 52)).cell? ⟨w1.heap.size, 1, none⟩ = some (.int .i64 y) :=
      ⟨by rw [World.cell?_alloc_at _ _ _ _ rfl]; rfl, by rw [World.cell?_alloc_at _ _ _ _ rfl]; rfl⟩
    go_region_held3 (fun w' => w'.cell? ⟨w1.heap.size, 0, none⟩ = some (.int .i64 x) ∧ w'.cell? ⟨w1.heap.size, 1, none⟩ = some (.int .i64 y)) (first | exact keep2 (by assumption) (by assumption) | exact keep2 (start _).drew (by assumption)) ((first
      | (go_at_call 58; (with_reducible refine (beginning_any r _ x _ (HR.out.keep hbx.drew) HBR.out HN.out hdr).mono ?_); rintro e w2 ⟨p2, t2, rfl, hT2, hR2, hb2⟩; have hdl2 := of_deep hR2)
      | (go_at_call 59; (with_reducible refine (join_any _ pl p2 x y l t2 _ (HL.out.keep (andthen hbx.drew hb2)) hT2 HBL.out (of_bal hR2) (Nat.le_refl _) (by omega) (by omega)).mono ?_); rintro e w3 ⟨p3, t3, rfl, hT3, hR3, hb3⟩)))
    go_wp2_with fail
    go_ret
    exact ⟨_, _, rfl, hT3, ⟨by rw [hR3.1, hR2.1, HROW.out, HA.out], joined_b hR3⟩, andthen (andthen hbx.drew hb2) hb3⟩
end Go.Proofs.Ytphojcnehgdbmaa.S2

/- Package spans: leanRight, leanLeft. Written by recipes/sn1.py from the first walk on. -/
import Derived.Test.YtkjkegjekfebpaaSnB
namespace Go.Proofs.Ytkjkegjekfebpaa
open Go.RowKit Spn

/-- a tree of both sides and of what lies between, so deep. -/
def Leant (l : Tr) (a : Sp) (r : Tr) (d : Nat) (t : Tr) : Prop := t.row = l.row ++ a :: r.row ∧ t.Bal ∧ d ≤ t.deep ∧ t.deep ≤ d + 1
theorem lean_r1 (ll lr r : Tr) (la a : Sp) (hl : (Tr.node ll la lr).Bal) (hr : r.Bal) (h : (Tr.node ll la lr).deep = r.deep + 2) (hc : lr.deep ≤ ll.deep) :
    Leant (.node ll la lr) a r (r.deep + 2) (.node ll la (.node lr a r)) := by
  obtain ⟨h1, h2, h3, h4⟩ := hl
  simp only [Tr.deep] at h
  refine ⟨by simp [Tr.row], ?_, ?_, ?_⟩
  · simp only [Tr.Bal, Tr.deep]; exact ⟨by omega, by omega, h3, by omega, by omega, h4, hr⟩
  · simp only [Tr.deep]; omega
  · simp only [Tr.deep]; omega
theorem lean_r2 (ll ml mr r : Tr) (la ma a : Sp) (hl : (Tr.node ll la (.node ml ma mr)).Bal) (hr : r.Bal) (h : (Tr.node ll la (.node ml ma mr)).deep = r.deep + 2) (hc : ¬ (Tr.node ml ma mr).deep ≤ ll.deep) :
    Leant (.node ll la (.node ml ma mr)) a r (r.deep + 2) (.node (.node ll la ml) ma (.node mr a r)) := by
  simp only [Tr.Bal] at hl
  obtain ⟨h1, h2, h3, h4, h5, h6, h7⟩ := hl
  simp only [Tr.deep] at h h1 h2 hc
  refine ⟨by simp [Tr.row], ?_, ?_, ?_⟩
  · simp only [Tr.Bal, Tr.deep]; exact ⟨by omega, by omega, ⟨by omega, by omega, h3, h6⟩, by omega, by omega, h7, hr⟩
  · simp only [Tr.deep]; omega
  · simp only [Tr.deep]; omega
theorem lean_l1 (l rl rr : Tr) (a ra : Sp) (hl : l.Bal) (hr : (Tr.node rl ra rr).Bal) (h : (Tr.node rl ra rr).deep = l.deep + 2) (hc : rl.deep ≤ rr.deep) :
    Leant l a (.node rl ra rr) (l.deep + 2) (.node (.node l a rl) ra rr) := by
  obtain ⟨h1, h2, h3, h4⟩ := hr
  simp only [Tr.deep] at h
  refine ⟨by simp [Tr.row], ?_, ?_, ?_⟩
  · simp only [Tr.Bal, Tr.deep]; exact ⟨by omega, by omega, ⟨by omega, by omega, hl, h3⟩, h4⟩
  · simp only [Tr.deep]; omega
  · simp only [Tr.deep]; omega
theorem lean_l2 (l ml mr rr : Tr) (a ma ra : Sp) (hl : l.Bal) (hr : (Tr.node (.node ml ma mr) ra rr).Bal) (h : (Tr.node (.node ml ma mr) ra rr).deep = l.deep + 2) (hc : ¬ (Tr.node ml ma mr).deep ≤ rr.deep) :
    Leant l a (.node (.node ml ma mr) ra rr) (l.deep + 2) (.node (.node l a ml) ma (.node mr ra rr)) := by
  simp only [Tr.Bal] at hr
  obtain ⟨h1, h2, ⟨h3, h4, h5, h6⟩, h7⟩ := hr
  simp only [Tr.deep] at h h1 h2 hc
  refine ⟨by simp [Tr.row], ?_, ?_, ?_⟩
  · simp only [Tr.Bal, Tr.deep]; exact ⟨by omega, by omega, ⟨by omega, by omega, hl, h5⟩, by omega, by omega, h6, h7⟩
  · simp only [Tr.deep]; omega
  · simp only [Tr.deep]; omega

/-- what is told of a call that makes a tree. -/
theorem Makes.to {W w : World} {t : Tr} {e : Ending} {R : Tr → Prop} (h : Makes W t e w) (hR : R t) : Grows W R e w := by
  obtain ⟨p, he, ht, hb⟩ := h
  exact ⟨p, t, he, ht, hR, hb⟩

set_option maxRecDepth 100000 in
set_option maxHeartbeats 1600000 in
theorem leanR_one (p : Option Addr) (f g : Int) (b : Nat) (po pm : Option Addr) (x y : Int) (o m s : Tr) (d : Nat) (w : World) (hn : Node w b (x, y) po pm d) (ho : Tree w po o) (hs : Tree w p s) (hm : Tree w pm m) (hc : m.deep ≤ o.deep) (b1 : o.deep ≤ 10000000) (b2 : m.deep ≤ 10000000) (b3 : s.deep ≤ 10000000) :
    Calls Try.prog 66 #[.pointer (some ⟨b, 0, none⟩), .agg #[.int .i64 f, .int .i64 g], .pointer p] w (Makes w (.node o (x, y) (.node m (f, g) s))) := by
  have hbx := more (start w) (.cells #[.int .i64 f, .int .i64 g] 25)
  obtain ⟨hlt, c0, c1, c2, c3, c4⟩ := hn
  have HO := hide (ho.keep hbx)
  have HP := hide (hs.keep hbx)
  have HM := hide (hm.keep hbx)
  have HS : (w.alloc (.cells #[.int .i64 f, .int .i64 g] 25)).cell? ⟨w.heap.size, 0, none⟩ = some (.int .i64 f) ∧ (w.alloc (.cells #[.int .i64 f, .int .i64 g] 25)).cell? ⟨w.heap.size, 1, none⟩ = some (.int .i64 g) ∧ (w.alloc (.cells #[.int .i64 f, .int .i64 g] 25)).cell? ⟨b, 0, none⟩ = some (.int .i64 x) ∧ (w.alloc (.cells #[.int .i64 f, .int .i64 g] 25)).cell? ⟨b, 1, none⟩ = some (.int .i64 y) ∧ (w.alloc (.cells #[.int .i64 f, .int .i64 g] 25)).cell? ⟨b, 2, none⟩ = some (.pointer po) ∧ (w.alloc (.cells #[.int .i64 f, .int .i64 g] 25)).cell? ⟨b, 3, none⟩ = some (.pointer pm) :=
    ⟨by rw [World.cell?_alloc_at _ _ _ _ rfl]; rfl, by rw [World.cell?_alloc_at _ _ _ _ rfl]; rfl, cell_keep hbx c0, cell_keep hbx c1, cell_keep hbx c2, cell_keep hbx c3⟩
  clear c0 c1 c2 c3 c4 ho hs hm
  go_enter Try.func66, Try.ntmps66
  go_wp2_with fail
  refine (deep_any po o _ HO.out).mono ?_
  rintro e w1 ⟨rfl, rfl⟩
  go_wp2_with fail
  refine (deep_any pm m _ HM.out).mono ?_
  rintro e w1 ⟨rfl, rfl⟩
  go_wp2_with fail
  go_region_held3 (fun w' => w'.cell? ⟨w.heap.size, 0, none⟩ = some (.int .i64 f) ∧ w'.cell? ⟨w.heap.size, 1, none⟩ = some (.int .i64 g) ∧ w'.cell? ⟨b, 0, none⟩ = some (.int .i64 x) ∧ w'.cell? ⟨b, 1, none⟩ = some (.int .i64 y) ∧ w'.cell? ⟨b, 2, none⟩ = some (.pointer po) ∧ w'.cell? ⟨b, 3, none⟩ = some (.pointer pm)) (first | exact keep6 (by assumption) (by assumption) | exact keep6 (start _).drew (by assumption)) ((first | (go_at_call 48; (with_reducible refine (newNode_any pm p f g m s _ (HM.out.keep (start _).drew) (HP.out.keep (start _).drew) (by omega) (by omega)).mono ?_); rintro e w2 ⟨p2, rfl, hT2, hb2⟩) | (go_at_call 48; (with_reducible refine (newNode_any po p2 x y o (.node m (f, g) s) _ (HO.out.keep (andthen (start _).drew hb2)) hT2 (by omega) (by simp only [Tr.deep]; omega)).mono ?_); rintro e w3 ⟨p3, rfl, hT3, hb3⟩)))
  go_wp2_with fail
  go_ret
  exact ⟨_, rfl, hT3, andthen (andthen hbx.drew hb2) hb3⟩
set_option maxRecDepth 100000 in
set_option maxHeartbeats 1600000 in
theorem leanR_two (p : Option Addr) (f g : Int) (b : Nat) (po : Option Addr) (x y : Int) (o s : Tr) (d : Nat) (k : Nat) (pml pmr : Option Addr) (u v : Int) (ml mr : Tr) (w : World) (hn : Node w b (x, y) po (some ⟨k, 0, none⟩) d) (ho : Tree w po o) (hs : Tree w p s) (hk : Node w k (u, v) pml pmr (Tr.node ml (u, v) mr).deep) (hml : Tree w pml ml) (hmr : Tree w pmr mr) (hc : ¬ (Tr.node ml (u, v) mr).deep ≤ o.deep) (b1 : o.deep ≤ 10000000) (b2 : (Tr.node ml (u, v) mr).deep ≤ 10000000) (b3 : s.deep ≤ 10000000) :
    Calls Try.prog 66 #[.pointer (some ⟨b, 0, none⟩), .agg #[.int .i64 f, .int .i64 g], .pointer p] w (Makes w (.node (.node o (x, y) ml) (u, v) (.node mr (f, g) s))) := by
  have hbx := more (start w) (.cells #[.int .i64 f, .int .i64 g] 25)
  have hmt : Tree w (some ⟨k, 0, none⟩) (.node ml (u, v) mr) := ⟨k, pml, pmr, rfl, hk, hml, hmr⟩
  have hdd : (Tr.node ml (u, v) mr).deep = 1 + max ml.deep mr.deep := rfl
  have g1 : ml.deep ≤ 10000000 := by omega
  have g2 : mr.deep ≤ 10000000 := by omega
  clear hdd
  obtain ⟨hlt, c0, c1, c2, c3, c4⟩ := hn
  obtain ⟨hlk, m0, m1, m2, m3, m4⟩ := hk
  have HO := hide (ho.keep hbx)
  have HP := hide (hs.keep hbx)
  have HM := hide (hmt.keep hbx)
  have HML := hide (hml.keep hbx)
  have HMR := hide (hmr.keep hbx)
  have HS : (w.alloc (.cells #[.int .i64 f, .int .i64 g] 25)).cell? ⟨w.heap.size, 0, none⟩ = some (.int .i64 f) ∧ (w.alloc (.cells #[.int .i64 f, .int .i64 g] 25)).cell? ⟨w.heap.size, 1, none⟩ = some (.int .i64 g) ∧ (w.alloc (.cells #[.int .i64 f, .int .i64 g] 25)).cell? ⟨b, 0, none⟩ = some (.int .i64 x) ∧ (w.alloc (.cells #[.int .i64 f, .int .i64 g] 25)).cell? ⟨b, 1, none⟩ = some (.int .i64 y) ∧ (w.alloc (.cells #[.int .i64 f, .int .i64 g] 25)).cell? ⟨b, 2, none⟩ = some (.pointer po) ∧ (w.alloc (.cells #[.int .i64 f, .int .i64 g] 25)).cell? ⟨b, 3, none⟩ = some (.pointer (some ⟨k, 0, none⟩)) ∧ (w.alloc (.cells #[.int .i64 f, .int .i64 g] 25)).cell? ⟨k, 0, none⟩ = some (.int .i64 u) ∧ (w.alloc (.cells #[.int .i64 f, .int .i64 g] 25)).cell? ⟨k, 1, none⟩ = some (.int .i64 v) ∧ (w.alloc (.cells #[.int .i64 f, .int .i64 g] 25)).cell? ⟨k, 2, none⟩ = some (.pointer pml) ∧ (w.alloc (.cells #[.int .i64 f, .int .i64 g] 25)).cell? ⟨k, 3, none⟩ = some (.pointer pmr) :=
    ⟨by rw [World.cell?_alloc_at _ _ _ _ rfl]; rfl, by rw [World.cell?_alloc_at _ _ _ _ rfl]; rfl, cell_keep hbx c0, cell_keep hbx c1, cell_keep hbx c2, cell_keep hbx c3, cell_keep hbx m0, cell_keep hbx m1, cell_keep hbx m2, cell_keep hbx m3⟩
  clear c0 c1 c2 c3 c4 ho hs m0 m1 m2 m3 m4 hml hmr hmt
  go_enter Try.func66, Try.ntmps66
  go_wp2_with fail
  refine (deep_any po o _ HO.out).mono ?_
  rintro e w1 ⟨rfl, rfl⟩
  go_wp2_with fail
  refine (deep_any (some ⟨k, 0, none⟩) (.node ml (u, v) mr) _ HM.out).mono ?_
  rintro e w1 ⟨rfl, rfl⟩
  go_wp2_with fail
  go_region_held3 (fun w' => w'.cell? ⟨w.heap.size, 0, none⟩ = some (.int .i64 f) ∧ w'.cell? ⟨w.heap.size, 1, none⟩ = some (.int .i64 g) ∧ w'.cell? ⟨b, 0, none⟩ = some (.int .i64 x) ∧ w'.cell? ⟨b, 1, none⟩ = some (.int .i64 y) ∧ w'.cell? ⟨b, 2, none⟩ = some (.pointer po) ∧ w'.cell? ⟨b, 3, none⟩ = some (.pointer (some ⟨k, 0, none⟩)) ∧ w'.cell? ⟨k, 0, none⟩ = some (.int .i64 u) ∧ w'.cell? ⟨k, 1, none⟩ = some (.int .i64 v) ∧ w'.cell? ⟨k, 2, none⟩ = some (.pointer pml) ∧ w'.cell? ⟨k, 3, none⟩ = some (.pointer pmr)) (first | exact keep10 (by assumption) (by assumption) | exact keep10 (start _).drew (by assumption)) ((first | (go_at_call 48; (with_reducible refine (newNode_any po pml x y o ml _ (HO.out.keep (start _).drew) (HML.out.keep (start _).drew) (by omega) (by omega)).mono ?_); rintro e w2 ⟨p2, rfl, hT2, hb2⟩)))
  go_wp2_with fail
  go_region_held3 (fun w' => w'.cell? ⟨w.heap.size, 0, none⟩ = some (.int .i64 f) ∧ w'.cell? ⟨w.heap.size, 1, none⟩ = some (.int .i64 g) ∧ w'.cell? ⟨b, 0, none⟩ = some (.int .i64 x) ∧ w'.cell? ⟨b, 1, none⟩ = some (.int .i64 y) ∧ w'.cell? ⟨b, 2, none⟩ = some (.pointer po) ∧ w'.cell? ⟨b, 3, none⟩ = some (.pointer (some ⟨k, 0, none⟩)) ∧ w'.cell? ⟨k, 0, none⟩ = some (.int .i64 u) ∧ w'.cell? ⟨k, 1, none⟩ = some (.int .i64 v) ∧ w'.cell? ⟨k, 2, none⟩ = some (.pointer pml) ∧ w'.cell? ⟨k, 3, none⟩ = some (.pointer pmr)) (first | exact keep10 (by assumption) (by assumption) | exact keep10 (start _).drew (by assumption)) ((first | (go_at_call 48; (with_reducible refine (newNode_any pmr p f g mr s _ (HMR.out.keep (andthen (andthen (start _).drew hb2) (start _).drew)) (HP.out.keep (andthen (andthen (start _).drew hb2) (start _).drew)) (by omega) (by omega)).mono ?_); rintro e w3 ⟨p3, rfl, hT3, hb3⟩) | (go_at_call 48; (with_reducible refine (newNode_any p2 p3 u v (.node o (x, y) ml) (.node mr (f, g) s) _ (hT2.keep (andthen (start _).drew hb3)) hT3 (by simp only [Tr.deep]; omega) (by simp only [Tr.deep]; omega)).mono ?_); rintro e w4 ⟨p4, rfl, hT4, hb4⟩)))
  go_wp2_with fail
  go_ret
  exact ⟨_, rfl, hT4, andthen (andthen (andthen hbx.drew hb2).drew hb3) hb4⟩
set_option maxRecDepth 100000 in
set_option maxHeartbeats 1600000 in
theorem leanL_one (p : Option Addr) (f g : Int) (b : Nat) (po pm : Option Addr) (x y : Int) (o m s : Tr) (d : Nat) (w : World) (hn : Node w b (x, y) pm po d) (ho : Tree w po o) (hs : Tree w p s) (hm : Tree w pm m) (hc : m.deep ≤ o.deep) (b1 : o.deep ≤ 10000000) (b2 : m.deep ≤ 10000000) (b3 : s.deep ≤ 10000000) :
    Calls Try.prog 67 #[.pointer p, .agg #[.int .i64 f, .int .i64 g], .pointer (some ⟨b, 0, none⟩)] w (Makes w (.node (.node s (f, g) m) (x, y) o)) := by
  have hbx := more (start w) (.cells #[.int .i64 f, .int .i64 g] 25)
  obtain ⟨hlt, c0, c1, c2, c3, c4⟩ := hn
  have HO := hide (ho.keep hbx)
  have HP := hide (hs.keep hbx)
  have HM := hide (hm.keep hbx)
  have HS : (w.alloc (.cells #[.int .i64 f, .int .i64 g] 25)).cell? ⟨w.heap.size, 0, none⟩ = some (.int .i64 f) ∧ (w.alloc (.cells #[.int .i64 f, .int .i64 g] 25)).cell? ⟨w.heap.size, 1, none⟩ = some (.int .i64 g) ∧ (w.alloc (.cells #[.int .i64 f, .int .i64 g] 25)).cell? ⟨b, 0, none⟩ = some (.int .i64 x) ∧ (w.alloc (.cells #[.int .i64 f, .int .i64 g] 25)).cell? ⟨b, 1, none⟩ = some (.int .i64 y) ∧ (w.alloc (.cells #[.int .i64 f, .int .i64 g] 25)).cell? ⟨b, 2, none⟩ = some (.pointer pm) ∧ (w.alloc (.cells #[.int .i64 f, .int .i64 g] 25)).cell? ⟨b, 3, none⟩ = some (.pointer po) :=
    ⟨by rw [World.cell?_alloc_at _ _ _ _ rfl]; rfl, by rw [World.cell?_alloc_at _ _ _ _ rfl]; rfl, cell_keep hbx c0, cell_keep hbx c1, cell_keep hbx c2, cell_keep hbx c3⟩
  clear c0 c1 c2 c3 c4 ho hs hm
  go_enter Try.func67, Try.ntmps67
  go_wp2_with fail
  refine (deep_any po o _ HO.out).mono ?_
  rintro e w1 ⟨rfl, rfl⟩
  go_wp2_with fail
  refine (deep_any pm m _ HM.out).mono ?_
  rintro e w1 ⟨rfl, rfl⟩
  go_wp2_with fail
  go_region_held3 (fun w' => w'.cell? ⟨w.heap.size, 0, none⟩ = some (.int .i64 f) ∧ w'.cell? ⟨w.heap.size, 1, none⟩ = some (.int .i64 g) ∧ w'.cell? ⟨b, 0, none⟩ = some (.int .i64 x) ∧ w'.cell? ⟨b, 1, none⟩ = some (.int .i64 y) ∧ w'.cell? ⟨b, 2, none⟩ = some (.pointer pm) ∧ w'.cell? ⟨b, 3, none⟩ = some (.pointer po)) (first | exact keep6 (by assumption) (by assumption) | exact keep6 (start _).drew (by assumption)) ((first | (go_at_call 48; (with_reducible refine (newNode_any p pm f g s m _ (HP.out.keep (start _).drew) (HM.out.keep (start _).drew) (by omega) (by omega)).mono ?_); rintro e w2 ⟨p2, rfl, hT2, hb2⟩) | (go_at_call 48; (with_reducible refine (newNode_any p2 po x y (.node s (f, g) m) o _ hT2 (HO.out.keep (andthen (start _).drew hb2)) (by simp only [Tr.deep]; omega) (by omega)).mono ?_); rintro e w3 ⟨p3, rfl, hT3, hb3⟩)))
  go_wp2_with fail
  go_ret
  exact ⟨_, rfl, hT3, andthen (andthen hbx.drew hb2) hb3⟩
set_option maxRecDepth 100000 in
set_option maxHeartbeats 1600000 in
theorem leanL_two (p : Option Addr) (f g : Int) (b : Nat) (po : Option Addr) (x y : Int) (o s : Tr) (d : Nat) (k : Nat) (pml pmr : Option Addr) (u v : Int) (ml mr : Tr) (w : World) (hn : Node w b (x, y) (some ⟨k, 0, none⟩) po d) (ho : Tree w po o) (hs : Tree w p s) (hk : Node w k (u, v) pml pmr (Tr.node ml (u, v) mr).deep) (hml : Tree w pml ml) (hmr : Tree w pmr mr) (hc : ¬ (Tr.node ml (u, v) mr).deep ≤ o.deep) (b1 : o.deep ≤ 10000000) (b2 : (Tr.node ml (u, v) mr).deep ≤ 10000000) (b3 : s.deep ≤ 10000000) :
    Calls Try.prog 67 #[.pointer p, .agg #[.int .i64 f, .int .i64 g], .pointer (some ⟨b, 0, none⟩)] w (Makes w (.node (.node s (f, g) ml) (u, v) (.node mr (x, y) o))) := by
  have hbx := more (start w) (.cells #[.int .i64 f, .int .i64 g] 25)
  have hmt : Tree w (some ⟨k, 0, none⟩) (.node ml (u, v) mr) := ⟨k, pml, pmr, rfl, hk, hml, hmr⟩
  have hdd : (Tr.node ml (u, v) mr).deep = 1 + max ml.deep mr.deep := rfl
  have g1 : ml.deep ≤ 10000000 := by omega
  have g2 : mr.deep ≤ 10000000 := by omega
  clear hdd
  obtain ⟨hlt, c0, c1, c2, c3, c4⟩ := hn
  obtain ⟨hlk, m0, m1, m2, m3, m4⟩ := hk
  have HO := hide (ho.keep hbx)
  have HP := hide (hs.keep hbx)
  have HM := hide (hmt.keep hbx)
  have HML := hide (hml.keep hbx)
  have HMR := hide (hmr.keep hbx)
  have HS : (w.alloc (.cells #[.int .i64 f, .int .i64 g] 25)).cell? ⟨w.heap.size, 0, none⟩ = some (.int .i64 f) ∧ (w.alloc (.cells #[.int .i64 f, .int .i64 g] 25)).cell? ⟨w.heap.size, 1, none⟩ = some (.int .i64 g) ∧ (w.alloc (.cells #[.int .i64 f, .int .i64 g] 25)).cell? ⟨b, 0, none⟩ = some (.int .i64 x) ∧ (w.alloc (.cells #[.int .i64 f, .int .i64 g] 25)).cell? ⟨b, 1, none⟩ = some (.int .i64 y) ∧ (w.alloc (.cells #[.int .i64 f, .int .i64 g] 25)).cell? ⟨b, 2, none⟩ = some (.pointer (some ⟨k, 0, none⟩)) ∧ (w.alloc (.cells #[.int .i64 f, .int .i64 g] 25)).cell? ⟨b, 3, none⟩ = some (.pointer po) ∧ (w.alloc (.cells #[.int .i64 f, .int .i64 g] 25)).cell? ⟨k, 0, none⟩ = some (.int .i64 u) ∧ (w.alloc (.cells #[.int .i64 f, .int .i64 g] 25)).cell? ⟨k, 1, none⟩ = some (.int .i64 v) ∧ (w.alloc (.cells #[.int .i64 f, .int .i64 g] 25)).cell? ⟨k, 2, none⟩ = some (.pointer pml) ∧ (w.alloc (.cells #[.int .i64 f, .int .i64 g] 25)).cell? ⟨k, 3, none⟩ = some (.pointer pmr) :=
    ⟨by rw [World.cell?_alloc_at _ _ _ _ rfl]; rfl, by rw [World.cell?_alloc_at _ _ _ _ rfl]; rfl, cell_keep hbx c0, cell_keep hbx c1, cell_keep hbx c2, cell_keep hbx c3, cell_keep hbx m0, cell_keep hbx m1, cell_keep hbx m2, cell_keep hbx m3⟩
  clear c0 c1 c2 c3 c4 ho hs m0 m1 m2 m3 m4 hml hmr hmt
  go_enter Try.func67, Try.ntmps67
  go_wp2_with fail
  refine (deep_any po o _ HO.out).mono ?_
  rintro e w1 ⟨rfl, rfl⟩
  go_wp2_with fail
  refine (deep_any (some ⟨k, 0, none⟩) (.node ml (u, v) mr) _ HM.out).mono ?_
  rintro e w1 ⟨rfl, rfl⟩
  go_wp2_with fail
  go_region_held3 (fun w' => w'.cell? ⟨w.heap.size, 0, none⟩ = some (.int .i64 f) ∧ w'.cell? ⟨w.heap.size, 1, none⟩ = some (.int .i64 g) ∧ w'.cell? ⟨b, 0, none⟩ = some (.int .i64 x) ∧ w'.cell? ⟨b, 1, none⟩ = some (.int .i64 y) ∧ w'.cell? ⟨b, 2, none⟩ = some (.pointer (some ⟨k, 0, none⟩)) ∧ w'.cell? ⟨b, 3, none⟩ = some (.pointer po) ∧ w'.cell? ⟨k, 0, none⟩ = some (.int .i64 u) ∧ w'.cell? ⟨k, 1, none⟩ = some (.int .i64 v) ∧ w'.cell? ⟨k, 2, none⟩ = some (.pointer pml) ∧ w'.cell? ⟨k, 3, none⟩ = some (.pointer pmr)) (first | exact keep10 (by assumption) (by assumption) | exact keep10 (start _).drew (by assumption)) ((first | (go_at_call 48; (with_reducible refine (newNode_any pmr po x y mr o _ (HMR.out.keep (start _).drew) (HO.out.keep (start _).drew) (by omega) (by omega)).mono ?_); rintro e w2 ⟨p2, rfl, hT2, hb2⟩)))
  go_wp2_with fail
  go_region_held3 (fun w' => w'.cell? ⟨w.heap.size, 0, none⟩ = some (.int .i64 f) ∧ w'.cell? ⟨w.heap.size, 1, none⟩ = some (.int .i64 g) ∧ w'.cell? ⟨b, 0, none⟩ = some (.int .i64 x) ∧ w'.cell? ⟨b, 1, none⟩ = some (.int .i64 y) ∧ w'.cell? ⟨b, 2, none⟩ = some (.pointer (some ⟨k, 0, none⟩)) ∧ w'.cell? ⟨b, 3, none⟩ = some (.pointer po) ∧ w'.cell? ⟨k, 0, none⟩ = some (.int .i64 u) ∧ w'.cell? ⟨k, 1, none⟩ = some (.int .i64 v) ∧ w'.cell? ⟨k, 2, none⟩ = some (.pointer pml) ∧ w'.cell? ⟨k, 3, none⟩ = some (.pointer pmr)) (first | exact keep10 (by assumption) (by assumption) | exact keep10 (start _).drew (by assumption)) ((first | (go_at_call 48; (with_reducible refine (newNode_any p pml f g s ml _ (HP.out.keep (andthen (andthen (start _).drew hb2) (start _).drew)) (HML.out.keep (andthen (andthen (start _).drew hb2) (start _).drew)) (by omega) (by omega)).mono ?_); rintro e w3 ⟨p3, rfl, hT3, hb3⟩) | (go_at_call 48; (with_reducible refine (newNode_any p3 p2 u v (.node s (f, g) ml) (.node mr (x, y) o) _ hT3 (hT2.keep (andthen (start _).drew hb3)) (by simp only [Tr.deep]; omega) (by simp only [Tr.deep]; omega)).mono ?_); rintro e w4 ⟨p4, rfl, hT4, hb4⟩)))
  go_wp2_with fail
  go_ret
  exact ⟨_, rfl, hT4, andthen (andthen (andthen hbx.drew hb2).drew hb3) hb4⟩
end Go.Proofs.Ytkjkegjekfebpaa

/- Package spans: join. -/
import Derived.Test.YtkjkegjekfebpaaSnD
namespace Go.Proofs.Ytkjkegjekfebpaa
open Go.RowKit Spn

/-- what join makes. -/
def Joined (l : Tr) (a : Sp) (r t : Tr) : Prop := t.row = l.row ++ a :: r.row ∧ t.Bal ∧ l.deep ≤ t.deep ∧ r.deep ≤ t.deep ∧ t.deep ≤ 1 + max l.deep r.deep
theorem joined_r {o m r t2 t : Tr} {a b : Sp} (bl : (Tr.node o b m).Bal) (h : r.deep + 1 < (Tr.node o b m).deep) (h2 : Joined m a r t2) (ht : Balanced o b t2 t) : Joined (.node o b m) a r t := by
  obtain ⟨b1, b2, b3, b4⟩ := bl
  obtain ⟨g1, g2, g3, g4, g5⟩ := h2
  obtain ⟨k1, k2, k3, k4, k5, k6⟩ := ht
  simp only [Tr.deep] at h
  refine ⟨by rw [k1, g1]; simp [Tr.row], k2, ?_, ?_, ?_⟩
  · simp only [Tr.deep]; omega
  · omega
  · simp only [Tr.deep]; omega
theorem joined_l {o m l t2 t : Tr} {a b : Sp} (br : (Tr.node m b o).Bal) (h : l.deep + 1 < (Tr.node m b o).deep) (h2 : Joined l a m t2) (ht : Balanced t2 b o t) : Joined l a (.node m b o) t := by
  obtain ⟨b1, b2, b3, b4⟩ := br
  obtain ⟨g1, g2, g3, g4, g5⟩ := h2
  obtain ⟨k1, k2, k3, k4, k5, k6⟩ := ht
  simp only [Tr.deep] at h
  refine ⟨by rw [k1, g1]; simp [Tr.row], k2, ?_, ?_, ?_⟩
  · omega
  · simp only [Tr.deep]; omega
  · simp only [Tr.deep]; omega
theorem joined_n {l r : Tr} {a : Sp} (bl : l.Bal) (br : r.Bal) (h1 : l.deep ≤ r.deep + 1) (h2 : r.deep ≤ l.deep + 1) : Joined l a r (.node l a r) :=
  ⟨rfl, ⟨h1, h2, bl, br⟩, by simp only [Tr.deep]; omega, by simp only [Tr.deep]; omega, by simp only [Tr.deep]; omega⟩
theorem joined_b {l r t : Tr} {a : Sp} (h : Joined l a r t) : t.Bal := h.2.1
theorem joined_d {l r t : Tr} {a : Sp} (h : Joined l a r t) : t.deep ≤ 1 + max l.deep r.deep ∧ l.deep ≤ t.deep ∧ r.deep ≤ t.deep := ⟨h.2.2.2.2, h.2.2.1, h.2.2.2.1⟩

set_option maxRecDepth 100000 in
set_option maxHeartbeats 1600000 in
theorem join_any (n : Nat) : ∀ (pl pr : Option Addr) (f g : Int) (l r : Tr) (w : World), Tree w pl l → Tree w pr r → l.Bal → r.Bal → l.deep + r.deep ≤ n → l.deep ≤ 900000 → r.deep ≤ 900000 →
    Calls Try.prog 52 #[.pointer pl, .agg #[.int .i64 f, .int .i64 g], .pointer pr] w (Grows w (Joined l (f, g) r)) := by
  induction n using Nat.strongRecOn with
  | _ n IH =>
  intro pl pr f g l r w hl hr bl br hn hd1 hd2
  have hbx := more (start w) (.cells #[.int .i64 f, .int .i64 g] 25)
  have HL := hide (hl.keep hbx)
  have HR := hide (hr.keep hbx)
  have HBL := hide bl
  have HBR := hide br
  have hcx0 : (w.alloc (.cells #[.int .i64 f, .int .i64 g] 25)).cell? ⟨w.heap.size, 0, none⟩ = some (.int .i64 f) := by rw [World.cell?_alloc_at _ _ _ _ rfl]; rfl
  have hcx1 : (w.alloc (.cells #[.int .i64 f, .int .i64 g] 25)).cell? ⟨w.heap.size, 1, none⟩ = some (.int .i64 g) := by rw [World.cell?_alloc_at _ _ _ _ rfl]; rfl
  by_cases c1 : r.deep + 1 < l.deep
  · obtain ⟨b, ⟨x, y⟩, po, pm, o, m, rfl, rfl, hnd, ho, hm⟩ := tree_deep hl (by omega)
    have e : (Tr.node o (x, y) m).deep = 1 + max o.deep m.deep := rfl
    obtain ⟨bl1, bl2, bl3, bl4⟩ := bl
    have HB3 := hide bl3
    have HB4 := hide bl4
    have ih := IH (m.deep + r.deep) (by omega)
    obtain ⟨hlt, c0, c1_, c2, c3, c4⟩ := hnd
    have HS : (w.alloc (.cells #[.int .i64 f, .int .i64 g] 25)).cell? ⟨w.heap.size, 0, none⟩ = some (.int .i64 f) ∧ (w.alloc (.cells #[.int .i64 f, .int .i64 g] 25)).cell? ⟨w.heap.size, 1, none⟩ = some (.int .i64 g) ∧ (w.alloc (.cells #[.int .i64 f, .int .i64 g] 25)).cell? ⟨b, 0, none⟩ = some (.int .i64 x) ∧ (w.alloc (.cells #[.int .i64 f, .int .i64 g] 25)).cell? ⟨b, 1, none⟩ = some (.int .i64 y) ∧ (w.alloc (.cells #[.int .i64 f, .int .i64 g] 25)).cell? ⟨b, 2, none⟩ = some (.pointer po) ∧ (w.alloc (.cells #[.int .i64 f, .int .i64 g] 25)).cell? ⟨b, 3, none⟩ = some (.pointer pm) :=
      ⟨hcx0, hcx1, cell_keep hbx c0, cell_keep hbx c1_, cell_keep hbx c2, cell_keep hbx c3⟩
    have HO := hide (ho.keep hbx)
    have HM := hide (hm.keep hbx)
    have c1' : (r.deep : Int) + 1 < ((Tr.node o (x, y) m).deep : Int) := by omega
    have g1 : m.deep ≤ 900000 := by omega
    have g2 : o.deep ≤ 900000 := by omega
    have g3 : m.deep ≤ o.deep + 1 := bl2
    have g4 : o.deep ≤ m.deep + 1 := bl1
    have g5 : r.deep ≤ m.deep := by omega
    have HC1 := hide c1
    have HD := hide e
    clear hl hr ho hm c0 c1_ c2 c3 c4 hcx0 hcx1 e IH bl1 bl2 bl3 bl4 br
    generalize hD : (Tr.node o (x, y) m).deep = D at *
    have HDD := hide hD
    clear hD
    go_enter Try.func52, Try.ntmps52
    go_wp2_with fail
    refine (deep_any _ (.node o (x, y) m) _ HL.out).mono ?_
    rw [HDD.out]
    rintro e w1 ⟨rfl, rfl⟩
    go_wp2_with fail
    refine (deep_any pr r _ HR.out).mono ?_
    rintro e w1 ⟨rfl, rfl⟩
    go_wp2_with fail
    go_region_held3 (fun w' => w'.cell? ⟨w.heap.size, 0, none⟩ = some (.int .i64 f) ∧ w'.cell? ⟨w.heap.size, 1, none⟩ = some (.int .i64 g) ∧ w'.cell? ⟨b, 0, none⟩ = some (.int .i64 x) ∧ w'.cell? ⟨b, 1, none⟩ = some (.int .i64 y) ∧ w'.cell? ⟨b, 2, none⟩ = some (.pointer po) ∧ w'.cell? ⟨b, 3, none⟩ = some (.pointer pm)) (first | exact keep6 (by assumption) (by assumption) | exact keep6 (start _).drew (by assumption)) ((first | (go_at_call 52; (with_reducible refine (ih pm pr f g m r _ (HM.out.keep (start _).drew) (HR.out.keep (start _).drew) HB4.out HBR.out (by omega) (by omega) (by omega)).mono ?_); rintro e w2 ⟨p2, t2, rfl, hT2, hR2, hb2⟩) | (go_at_call 61; (with_reducible refine (balance_any po p2 x y o t2 _ (HO.out.keep (andthen (start _).drew hb2)) hT2 HB3.out (joined_b hR2) (by have := joined_d hR2; omega) (by have := joined_d hR2; omega) (by have := joined_d hR2; omega) (by have := joined_d hR2; omega)).mono ?_); rintro e w3 ⟨p3, t3, rfl, hT3, hR3, hb3⟩)))
    go_wp2_with fail
    go_ret
    exact ⟨_, _, rfl, hT3, joined_r HBL.out (by rw [HDD.out]; exact HC1.out) hR2 hR3, andthen (andthen hbx.drew hb2) hb3⟩
  · have c1' : ¬ (r.deep : Int) + 1 < (l.deep : Int) := by omega
    by_cases c2 : l.deep + 1 < r.deep
    · obtain ⟨b, ⟨x, y⟩, pm, po, m, o, rfl, rfl, hnd, hm, ho⟩ := tree_deep hr (by omega)
      have e : (Tr.node m (x, y) o).deep = 1 + max m.deep o.deep := rfl
      obtain ⟨br1, br2, br3, br4⟩ := br
      have HB3 := hide br3
      have HB4 := hide br4
      have ih := IH (l.deep + m.deep) (by omega)
      obtain ⟨hlt, c0, c1_, c2_, c3, c4⟩ := hnd
      have HS : (w.alloc (.cells #[.int .i64 f, .int .i64 g] 25)).cell? ⟨w.heap.size, 0, none⟩ = some (.int .i64 f) ∧ (w.alloc (.cells #[.int .i64 f, .int .i64 g] 25)).cell? ⟨w.heap.size, 1, none⟩ = some (.int .i64 g) ∧ (w.alloc (.cells #[.int .i64 f, .int .i64 g] 25)).cell? ⟨b, 0, none⟩ = some (.int .i64 x) ∧ (w.alloc (.cells #[.int .i64 f, .int .i64 g] 25)).cell? ⟨b, 1, none⟩ = some (.int .i64 y) ∧ (w.alloc (.cells #[.int .i64 f, .int .i64 g] 25)).cell? ⟨b, 2, none⟩ = some (.pointer pm) ∧ (w.alloc (.cells #[.int .i64 f, .int .i64 g] 25)).cell? ⟨b, 3, none⟩ = some (.pointer po) :=
        ⟨hcx0, hcx1, cell_keep hbx c0, cell_keep hbx c1_, cell_keep hbx c2_, cell_keep hbx c3⟩
      have HO := hide (ho.keep hbx)
      have HM := hide (hm.keep hbx)
      have c2' : (l.deep : Int) + 1 < ((Tr.node m (x, y) o).deep : Int) := by omega
      have g1 : m.deep ≤ 900000 := by omega
      have g2 : o.deep ≤ 900000 := by omega
      have g3 : m.deep ≤ o.deep + 1 := br1
      have g4 : o.deep ≤ m.deep + 1 := br2
      have g5 : l.deep ≤ m.deep := by omega
      have HC2 := hide c2
      clear hl hr ho hm c0 c1_ c2_ c3 c4 hcx0 hcx1 e IH br1 br2 br3 br4 bl
      generalize hD : (Tr.node m (x, y) o).deep = D at *
      have HDD := hide hD
      clear hD
      go_enter Try.func52, Try.ntmps52
      go_wp2_with fail
      refine (deep_any pl l _ HL.out).mono ?_
      rintro e w1 ⟨rfl, rfl⟩
      go_wp2_with fail
      refine (deep_any _ (.node m (x, y) o) _ HR.out).mono ?_
      rw [HDD.out]
      rintro e w1 ⟨rfl, rfl⟩
      go_wp2_with fail
      refine (deep_any _ (.node m (x, y) o) _ HR.out).mono ?_
      rw [HDD.out]
      rintro e w1 ⟨rfl, rfl⟩
      go_wp2_with fail
      refine (deep_any pl l _ HL.out).mono ?_
      rintro e w1 ⟨rfl, rfl⟩
      go_wp2_with fail
      go_region_held3 (fun w' => w'.cell? ⟨w.heap.size, 0, none⟩ = some (.int .i64 f) ∧ w'.cell? ⟨w.heap.size, 1, none⟩ = some (.int .i64 g) ∧ w'.cell? ⟨b, 0, none⟩ = some (.int .i64 x) ∧ w'.cell? ⟨b, 1, none⟩ = some (.int .i64 y) ∧ w'.cell? ⟨b, 2, none⟩ = some (.pointer pm) ∧ w'.cell? ⟨b, 3, none⟩ = some (.pointer po)) (first | exact keep6 (by assumption) (by assumption) | exact keep6 (start _).drew (by assumption)) ((first | (go_at_call 52; (with_reducible refine (ih pl pm f g l m _ (HL.out.keep (start _).drew) (HM.out.keep (start _).drew) HBL.out HB3.out (by omega) (by omega) (by omega)).mono ?_); rintro e w2 ⟨p2, t2, rfl, hT2, hR2, hb2⟩) | (go_at_call 61; (with_reducible refine (balance_any p2 po x y t2 o _ hT2 (HO.out.keep (andthen (start _).drew hb2)) (joined_b hR2) HB4.out (by have := joined_d hR2; omega) (by have := joined_d hR2; omega) (by have := joined_d hR2; omega) (by have := joined_d hR2; omega)).mono ?_); rintro e w3 ⟨p3, t3, rfl, hT3, hR3, hb3⟩)))
      go_wp2_with fail
      go_ret
      exact ⟨_, _, rfl, hT3, joined_l HBR.out (by rw [HDD.out]; exact HC2.out) hR2 hR3, andthen (andthen hbx.drew hb2) hb3⟩
    · have c2' : ¬ (l.deep : Int) + 1 < (r.deep : Int) := by omega
      clear hl hr IH bl br
      go_enter Try.func52, Try.ntmps52
      go_wp2_with fail
      refine (deep_any pl l _ HL.out).mono ?_
      rintro e w1 ⟨rfl, rfl⟩
      go_wp2_with fail
      refine (deep_any pr r _ HR.out).mono ?_
      rintro e w1 ⟨rfl, rfl⟩
      go_wp2_with fail
      refine (deep_any pr r _ HR.out).mono ?_
      rintro e w1 ⟨rfl, rfl⟩
      go_wp2_with fail
      refine (deep_any pl l _ HL.out).mono ?_
      rintro e w1 ⟨rfl, rfl⟩
      go_wp2_with fail
      refine (newNode_any pl pr f g l r _ HL.out HR.out (by omega) (by omega)).mono ?_
      rintro e w1 ⟨p1, rfl, hT, hb⟩
      go_wp2_with fail
      go_ret
      exact ⟨_, _, rfl, hT, joined_n HBL.out HBR.out (by omega) (by omega), andthen hbx hb⟩
end Go.Proofs.Ytkjkegjekfebpaa

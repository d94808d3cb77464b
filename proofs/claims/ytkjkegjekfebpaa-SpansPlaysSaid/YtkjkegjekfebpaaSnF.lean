/- Package spans: endingBefore, beginningAfter of every tree. Written by recipes/sn2.py. -/
import Derived.Test.YtkjkegjekfebpaaSnE
namespace Go.Proofs.Ytkjkegjekfebpaa
open Go.RowKit Spn

/-- a balanced tree of this row. -/
def Of' (l : List Sp) (t : Tr) : Prop := t.row = l ∧ t.Bal
theorem of_bal {l : List Sp} {t : Tr} (h : Of' l t) : t.Bal := h.2
theorem of_deep {l : List Sp} {t : Tr} (h : Of' l t) : t.deep ≤ l.length := by rw [← h.1]; exact Tr.deep_le t

set_option maxRecDepth 100000 in
set_option maxHeartbeats 1600000 in
theorem ending_any (t : Tr) : ∀ (p : Option Addr) (k : Int) (w : World), Tree w p t → t.Bal → Neat t.row → t.row.length ≤ 800000 →
    Calls Try.prog 50 #[.pointer p, .int .i64 k] w (Grows w (Of' (bef t.row k))) := by
  induction t with
  | nil =>
    intro p k w h _ _ _
    obtain rfl : p = none := h
    go_enter Try.func50, Try.ntmps50
    go_wp2_with fail
    go_ret
    exact ⟨none, .nil, rfl, rfl, ⟨rfl, trivial⟩, start _⟩
  | node l a r ihl ihr =>
    intro p k w h hbal hneat hlen
    obtain ⟨b, pl, pr, rfl, hn, hl, hr⟩ := h
    obtain ⟨x, y⟩ := a
    obtain ⟨hlt, c0, c1, c2, c3, c4⟩ := hn
    have HBL := hide hbal.2.2.1
    have HBR := hide hbal.2.2.2
    have hmid := neat_mid _ _ _ hneat
    have HNL := hide hmid.2.2.2.1
    have HNR := hide hmid.2.2.2.2
    have HN : Hid (Neat (l.row ++ (x, y) :: r.row)) := hide hneat
    have hll : l.row.length + r.row.length ≤ 799999 := by simp only [Tr.row, List.length_append, List.length_cons] at hlen; omega
    have hdl := Tr.deep_le l
    have hdr := Tr.deep_le r
    have HL := hide hl
    have HR := hide hr
    have hfl := bef_len l.row k
    have hfr := bef_len r.row k
    have IHl := hide ihl
    have IHr := hide ihr
    clear hl hr hmid hneat hbal hlen c4 ihl ihr
    by_cases hc : y < k
    · go_enter Try.func50, Try.ntmps50
      have HS : w.cell? ⟨b, 0, none⟩ = some (.int .i64 x) ∧ w.cell? ⟨b, 1, none⟩ = some (.int .i64 y) ∧ w.cell? ⟨b, 2, none⟩ = some (.pointer pl) ∧ w.cell? ⟨b, 3, none⟩ = some (.pointer pr) := ⟨c0, c1, c2, c3⟩
      go_wp2_with fail
      go_region_held3 (fun w' => w'.cell? ⟨b, 0, none⟩ = some (.int .i64 x) ∧ w'.cell? ⟨b, 1, none⟩ = some (.int .i64 y) ∧ w'.cell? ⟨b, 2, none⟩ = some (.pointer pl) ∧ w'.cell? ⟨b, 3, none⟩ = some (.pointer pr)) (first | exact keep4 (by assumption) (by assumption) | exact keep4 (start _).drew (by assumption)) ((first | (go_at_call 50; (with_reducible refine (IHr.out pr k _ (HR.out.keep (start _).drew) HBR.out HNR.out (by omega)).mono ?_); rintro e w2 ⟨p2, t2, rfl, hT2, hR2, hb2⟩; have hdl2 := of_deep hR2) | (go_at_call 52; (with_reducible refine (join_any _ pl p2 x y l t2 _ (HL.out.keep (andthen (start _).drew hb2)) hT2 HBL.out (of_bal hR2) (Nat.le_refl _) (by omega) (by omega)).mono ?_); rintro e w3 ⟨p3, t3, rfl, hT3, hR3, hb3⟩)))
      go_wp2_with fail
      go_ret
      exact ⟨_, _, rfl, hT3, ⟨by rw [hR3.1, hR2.1]; exact (bef_yes _ _ _ _ HN.out hc).symm, joined_b hR3⟩, andthen (andthen (start _).drew hb2) hb3⟩
    · go_enter Try.func50, Try.ntmps50
      go_wp2_with fail
      refine (IHl.out pl k _ HL.out HBL.out HNL.out (by omega)).mono ?_
      rintro e w2 ⟨p2, t2, rfl, hT2, hR2, hb2⟩
      go_wp2_with fail
      go_ret
      exact ⟨_, _, rfl, hT2, ⟨by rw [hR2.1]; exact (bef_no _ _ _ _ HN.out (Int.not_lt.2 hc)).symm, hR2.2⟩, hb2⟩

set_option maxRecDepth 100000 in
set_option maxHeartbeats 1600000 in
theorem beginning_any (t : Tr) : ∀ (p : Option Addr) (k : Int) (w : World), Tree w p t → t.Bal → Neat t.row → t.row.length ≤ 800000 →
    Calls Try.prog 51 #[.pointer p, .int .i64 k] w (Grows w (Of' (aft t.row k))) := by
  induction t with
  | nil =>
    intro p k w h _ _ _
    obtain rfl : p = none := h
    go_enter Try.func51, Try.ntmps51
    go_wp2_with fail
    go_ret
    exact ⟨none, .nil, rfl, rfl, ⟨rfl, trivial⟩, start _⟩
  | node l a r ihl ihr =>
    intro p k w h hbal hneat hlen
    obtain ⟨b, pl, pr, rfl, hn, hl, hr⟩ := h
    obtain ⟨x, y⟩ := a
    obtain ⟨hlt, c0, c1, c2, c3, c4⟩ := hn
    have HBL := hide hbal.2.2.1
    have HBR := hide hbal.2.2.2
    have hmid := neat_mid _ _ _ hneat
    have HNL := hide hmid.2.2.2.1
    have HNR := hide hmid.2.2.2.2
    have HN : Hid (Neat (l.row ++ (x, y) :: r.row)) := hide hneat
    have hll : l.row.length + r.row.length ≤ 799999 := by simp only [Tr.row, List.length_append, List.length_cons] at hlen; omega
    have hdl := Tr.deep_le l
    have hdr := Tr.deep_le r
    have HL := hide hl
    have HR := hide hr
    have hfl := aft_len l.row k
    have hfr := aft_len r.row k
    have IHl := hide ihl
    have IHr := hide ihr
    clear hl hr hmid hneat hbal hlen c4 ihl ihr
    by_cases hc : k < x
    · go_enter Try.func51, Try.ntmps51
      have HS : w.cell? ⟨b, 0, none⟩ = some (.int .i64 x) ∧ w.cell? ⟨b, 1, none⟩ = some (.int .i64 y) ∧ w.cell? ⟨b, 2, none⟩ = some (.pointer pl) ∧ w.cell? ⟨b, 3, none⟩ = some (.pointer pr) := ⟨c0, c1, c2, c3⟩
      go_wp2_with fail
      go_region_held3 (fun w' => w'.cell? ⟨b, 0, none⟩ = some (.int .i64 x) ∧ w'.cell? ⟨b, 1, none⟩ = some (.int .i64 y) ∧ w'.cell? ⟨b, 2, none⟩ = some (.pointer pl) ∧ w'.cell? ⟨b, 3, none⟩ = some (.pointer pr)) (first | exact keep4 (by assumption) (by assumption) | exact keep4 (start _).drew (by assumption)) ((first | (go_at_call 51; (with_reducible refine (IHl.out pl k _ (HL.out.keep (start _).drew) HBL.out HNL.out (by omega)).mono ?_); rintro e w2 ⟨p2, t2, rfl, hT2, hR2, hb2⟩; have hdl2 := of_deep hR2) | (go_at_call 52; (with_reducible refine (join_any _ p2 pr x y t2 r _ hT2 (HR.out.keep (andthen (start _).drew hb2)) (of_bal hR2) HBR.out (Nat.le_refl _) (by omega) (by omega)).mono ?_); rintro e w3 ⟨p3, t3, rfl, hT3, hR3, hb3⟩)))
      go_wp2_with fail
      go_ret
      exact ⟨_, _, rfl, hT3, ⟨by rw [hR3.1, hR2.1]; exact (aft_yes _ _ _ _ HN.out hc).symm, joined_b hR3⟩, andthen (andthen (start _).drew hb2) hb3⟩
    · go_enter Try.func51, Try.ntmps51
      go_wp2_with fail
      refine (IHr.out pr k _ HR.out HBR.out HNR.out (by omega)).mono ?_
      rintro e w2 ⟨p2, t2, rfl, hT2, hR2, hb2⟩
      go_wp2_with fail
      go_ret
      exact ⟨_, _, rfl, hT2, ⟨by rw [hR2.1]; exact (aft_no _ _ _ _ HN.out (Int.not_lt.2 hc)).symm, hR2.2⟩, hb2⟩
end Go.Proofs.Ytkjkegjekfebpaa

/- Package spans: first, concat. -/
import Derived.Test.YtkjkegjekfebpaaSnF
import Derived.LoopTactic
namespace Go.Proofs.Ytkjkegjekfebpaa
open Go.RowKit Spn

/-- the depth that a node stores. -/
def dep (W : World) : Value → Nat
  | .pointer (some a) => match W.cell? ⟨a.block, 4, none⟩ with
    | some (.int _ d) => d.toNat
    | _ => 0
  | _ => 0
theorem dep_tree {w : World} {p : Option Addr} {t : Tr} (h : Tree w p t) : dep w (.pointer p) = t.deep := by
  cases t with
  | nil => obtain rfl : p = none := h; rfl
  | node l a r => obtain ⟨b, pl, pr, rfl, hn, _⟩ := h; simp only [dep, hn.c4]; rfl
/-- what lies at a pointer, and in its row the same span stands first. -/
def Fst (w : World) (T : Tr) (v : Value) : Prop := ∃ b x y pl pr l r, v = .pointer (some ⟨b, 0, none⟩) ∧ Node w b (x, y) pl pr (Tr.node l (x, y) r).deep ∧ Tree w pl l ∧ Tree w pr r ∧ (Tr.node l (x, y) r).row.head? = T.row.head?
theorem fst_dep {w : World} {b : Nat} {x y : Int} {pl pr : Option Addr} {l r : Tr} (hn : Node w b (x, y) pl pr (Tr.node l (x, y) r).deep) : dep w (.pointer (some ⟨b, 0, none⟩)) = (Tr.node l (x, y) r).deep := by
  simp only [dep, hn.c4]; rfl
theorem head_left (l r : Tr) (a : Sp) (h : l.row ≠ []) : (Tr.node l a r).row.head? = l.row.head? := by
  simp only [Tr.row]
  cases hl : l.row with
  | nil => exact absurd hl h
  | cons c s => rfl

set_option maxRecDepth 100000 in
set_option maxHeartbeats 1600000 in
theorem first_any (p : Option Addr) (T : Tr) (w : World) (h : Tree w p T) (x y : Int) (s : List Sp) (hrow : T.row = (x, y) :: s) :
    Calls Try.prog 62 #[.pointer p] w fun e w' => e = .returned (.agg #[.int .i64 x, .int .i64 y]) ∧ Below w.heap.size w w' := by
  have hstart : Fst w T (.pointer p) := by
    cases T with
    | nil => simp [Tr.row] at hrow
    | node l a r =>
      obtain ⟨b, pl, pr, rfl, hn, hl, hr⟩ := h
      obtain ⟨u, v⟩ := a
      exact ⟨b, u, v, pl, pr, l, r, rfl, hn, hl, hr, rfl⟩
  have HST := hide hstart
  have HROW := hide hrow
  clear h hstart hrow
  have hbx := more (start w) (.cells #[.int .i64 0, .int .i64 0] 25)
  have HBX := hide hbx
  clear hbx
  go_enter Try.func62, Try.ntmps62
  go_wp2_with fail
  go_loop [0] (fun v => Fst w T v) (fun v => dep w v)
  case atStart => exact HST.out
  case round =>
    obtain ⟨b, u, v, pl, pr, l, r, rfl, hn, hl, hr, hh⟩ := hrel
    have HN := hide hn
    have HH := hide hh
    have HL := hide hl
    have k0 := cell_keep HBX.out hn.c0
    have k1 := cell_keep HBX.out hn.c1
    have k2 := cell_keep HBX.out hn.c2
    have hlt := hn.lt
    cases l with
    | nil =>
      obtain rfl : pl = none := hl
      clear hn hr hh
      have hne : ¬ b = w.heap.size := by omega
      have hE : (u, v) = (x, y) := by
        have := HH.out
        rw [HROW.out] at this
        simpa [Tr.row] using this
      obtain ⟨rfl, rfl⟩ := Prod.mk.inj hE
      clear hE
      go_wp2_with fail
      exact bodyPost_ret (v := .agg #[.int .i64 u, .int .i64 v]) (by simp [results, Try.results62, go_sem]) rfl ⟨rfl, more (start _) _⟩
    | node l2 a2 r2 =>
      obtain ⟨b2, pl2, pr2, rfl, hn2, hl2, hr2⟩ := hl
      obtain ⟨u2, v2⟩ := a2
      have HN2 := hide hn2
      have HL2 := hide hl2
      have HR2 := hide hr2
      clear hn hr hh hn2 hl2 hr2
      go_wp2_with fail
      go_round
      case rel => exact ⟨b2, u2, v2, pl2, pr2, l2, r2, rfl, HN2.out, HL2.out, HR2.out, by rw [← HH.out]; exact (head_left _ _ _ (by simp [Tr.row])).symm⟩
      case measure =>
        show dep w (.pointer (some ⟨b2, 0, none⟩)) < dep w (.pointer (some ⟨b, 0, none⟩))
        rw [fst_dep HN2.out, fst_dep HN.out]
        simp only [Tr.deep]
        omega

theorem aft_tail (x y : Int) (s : List Sp) (h : Neat ((x, y) :: s)) : aft ((x, y) :: s) x = s := by
  have h2 := aft_no [] s (x, y) x h (by simp)
  rw [List.nil_append] at h2
  rw [h2]
  exact filter_all _ _ fun b hb => decide_eq_true (by have := h.2.1 b hb; have := h.1; unfold Ok at this; simp only at *; omega)

set_option maxRecDepth 100000 in
set_option maxHeartbeats 1600000 in
theorem concat_any (pl pr : Option Addr) (l r : Tr) (w : World) (hl : Tree w pl l) (hr : Tree w pr r) (bl : l.Bal) (br : r.Bal) (hn : Neat r.row) (hdl : l.deep ≤ 800000) (hdr : r.row.length ≤ 800000) :
    Calls Try.prog 53 #[.pointer pl, .pointer pr] w (Grows w (Of' (l.row ++ r.row))) := by
  by_cases h0 : r.row = []
  · have hr0 := Tr.deep_nil r h0
    subst hr0
    obtain rfl : pr = none := hr
    have HL := hide hl
    have HBL := hide bl
    clear hl bl
    go_enter Try.func53, Try.ntmps53
    go_wp2_with fail
    go_ret
    exact ⟨_, _, rfl, HL.out, ⟨by simp [Tr.row], HBL.out⟩, start _⟩
  · obtain ⟨⟨x, y⟩, s, hrow⟩ := List.exists_cons_of_ne_nil h0
    have hpos := Tr.deep_pos r h0
    obtain ⟨b, a, pl2, pr2, l2, r2, rfl, -, -, -, -⟩ := tree_deep hr hpos
    have HL := hide hl
    have HR := hide hr
    have HBL := hide bl
    have HBR := hide br
    have HN := hide hn
    have HROW := hide hrow
    have hal := aft_len r.row x
    have HA := hide (aft_tail x y s (by rw [← hrow]; exact hn))
    clear hl hr bl br hn hrow h0 hpos
    go_enter Try.func53, Try.ntmps53
    go_wp2_with fail
    refine (first_any _ r _ HR.out x y s HROW.out).mono ?_
    rintro e w1 ⟨rfl, hb1⟩
    go_wp2_with fail
    have hbx := andthen hb1 (more (start w1) (.cells #[.int .i64 x, .int .i64 y] 25))
    have HS : (w1.alloc (.cells #[.int .i64 x, .int .i64 y] 25)).cell? ⟨w1.heap.size, 0, none⟩ = some (.int .i64 x) ∧ (w1.alloc (.cells #[.int .i64 x, .int .i64 y] 25)).cell? ⟨w1.heap.size, 1, none⟩ = some (.int .i64 y) :=
      ⟨by rw [World.cell?_alloc_at _ _ _ _ rfl]; rfl, by rw [World.cell?_alloc_at _ _ _ _ rfl]; rfl⟩
    go_region_held3 (fun w' => w'.cell? ⟨w1.heap.size, 0, none⟩ = some (.int .i64 x) ∧ w'.cell? ⟨w1.heap.size, 1, none⟩ = some (.int .i64 y)) (first | exact keep2 (by assumption) (by assumption) | exact keep2 (start _).drew (by assumption)) ((first
      | (go_at_call 51; (with_reducible refine (beginning_any r _ x _ (HR.out.keep hbx.drew) HBR.out HN.out hdr).mono ?_); rintro e w2 ⟨p2, t2, rfl, hT2, hR2, hb2⟩; have hdl2 := of_deep hR2)
      | (go_at_call 52; (with_reducible refine (join_any _ pl p2 x y l t2 _ (HL.out.keep (andthen hbx.drew hb2)) hT2 HBL.out (of_bal hR2) (Nat.le_refl _) (by omega) (by omega)).mono ?_); rintro e w3 ⟨p3, t3, rfl, hT3, hR3, hb3⟩)))
    go_wp2_with fail
    go_ret
    exact ⟨_, _, rfl, hT3, ⟨by rw [hR3.1, hR2.1, HROW.out, HA.out], joined_b hR3⟩, andthen (andthen hbx.drew hb2) hb3⟩
end Go.Proofs.Ytkjkegjekfebpaa

/- Package spans: appendTouching of every tree. Written by recipes/sn3.py. -/
import Derived.Test.YtkjkegjekfebpaaSnH
namespace Go.Proofs.Ytkjkegjekfebpaa
open Go.RowKit Spn

theorem touch_at' (f t g u : Int) (b : Bool) (w : World) (h : touchB (f, t) (g, u) = b) :
    Calls Try.prog 60 #[.agg #[.int .i64 f, .int .i64 t], .agg #[.int .i64 g, .int .i64 u]] w fun e w' => e = .returned (.bool b) ∧ Below w.heap.size w w' := by
  subst h; exact touch_any f t g u w
/-- within a call of appendTouching: the box of the span, the node, the own row. -/
structure St (W w0 : World) (X b : Nat) (x y n1 n2 : Int) (pl pr : Option Addr) (v0 v : Value) (l : List Sp) (w : World) : Prop where
  own : Own w W.heap.size v l
  go : Goes v0 w0 v w
  q0 : w.cell? ⟨X, 0, none⟩ = some (.int .i64 x)
  q1 : w.cell? ⟨X, 1, none⟩ = some (.int .i64 y)
  q2 : w.cell? ⟨b, 0, none⟩ = some (.int .i64 n1)
  q3 : w.cell? ⟨b, 1, none⟩ = some (.int .i64 n2)
  q4 : w.cell? ⟨b, 2, none⟩ = some (.pointer pl)
  q5 : w.cell? ⟨b, 3, none⟩ = some (.pointer pr)
  aX : Apart v X
  aB : Apart v b
  lX : X < w.heap.size
  lB : b < w.heap.size
  below : Below W.heap.size W w
section
variable {W w0 : World} {X b : Nat} {x y n1 n2 : Int} {pl pr : Option Addr} {v0 v : Value} {l : List Sp} {w : World}
theorem St.cells (h : St W w0 X b x y n1 n2 pl pr v0 v l w) : w.cell? ⟨X, 0, none⟩ = some (.int .i64 x) ∧ w.cell? ⟨X, 1, none⟩ = some (.int .i64 y) ∧ w.cell? ⟨b, 0, none⟩ = some (.int .i64 n1) ∧ w.cell? ⟨b, 1, none⟩ = some (.int .i64 n2) ∧ w.cell? ⟨b, 2, none⟩ = some (.pointer pl) ∧ w.cell? ⟨b, 3, none⟩ = some (.pointer pr) := ⟨h.q0, h.q1, h.q2, h.q3, h.q4, h.q5⟩
theorem St.later (h : St W w0 X b x y n1 n2 pl pr v0 v l w) {w1 : World} (hb : Below w.heap.size w w1) : St W w0 X b x y n1 n2 pl pr v0 v l w1 :=
  ⟨Own.keep h.own hb, h.go.trans (Goes.below hb), cell_keep hb h.q0, cell_keep hb h.q1, cell_keep hb h.q2, cell_keep hb h.q3, cell_keep hb h.q4, cell_keep hb h.q5, h.aX, h.aB, Nat.lt_of_lt_of_le h.lX hb.size, Nat.lt_of_lt_of_le h.lB hb.size, h.below.trans (hb.mono h.below.size)⟩
theorem St.drew (h : St W w0 X b x y n1 n2 pl pr v0 v l w) : St W w0 X b x y n1 n2 pl pr v0 v l w.drew := h.later (start w).drew
theorem St.goes (h : St W w0 X b x y n1 n2 pl pr v0 v l w) {v1 : Value} {l1 : List Sp} {w1 : World} (ho : Own w1 W.heap.size v1 l1) (hg : Goes v w v1 w1) : St W w0 X b x y n1 n2 pl pr v0 v1 l1 w1 :=
  ⟨ho, h.go.trans hg, hg.cell h.aX h.q0, hg.cell h.aX h.q1, hg.cell h.aB h.q2, hg.cell h.aB h.q3, hg.cell h.aB h.q4, hg.cell h.aB h.q5, hg.apart h.aX h.lX, hg.apart h.aB h.lB, Nat.lt_of_lt_of_le h.lX hg.grown.size, Nat.lt_of_lt_of_le h.lB hg.grown.size, hg.to h.own h.below⟩
end

set_option maxRecDepth 100000 in
set_option maxHeartbeats 4000000 in
theorem touching_any (W : World) (t : Tr) : ∀ (p : Option Addr) (x y : Int) (v : Value) (l0 : List Sp) (w : World), Tree W p t → Below W.heap.size W w → Own w W.heap.size v l0 → Neat t.row → l0.length + t.row.length ≤ 900000 →
    Calls Try.prog 54 #[.pointer p, v, .agg #[.int .i64 x, .int .i64 y]] w (Adds w W.heap.size v (l0 ++ tch t.row (x, y))) := by
  induction t with
  | nil =>
    intro p x y v l0 w h hbw hown _ _
    obtain rfl : p = none := h
    have HO := hide hown
    clear hown
    go_enter Try.func54, Try.ntmps54
    go_wp2_with fail
    go_ret
    exact ⟨_, rfl, by rw [show tch Tr.nil.row (x, y) = [] from rfl, List.append_nil]; exact HO.out.alloc _, Goes.below (more (start _) _)⟩
  | node l a r ihl ihr =>
  intro p x y v l0 w h hbw hown hneat hlen
  obtain ⟨b, pl, pr, rfl, hn, hl, hr⟩ := h
  obtain ⟨n1, n2⟩ := a
  have hn2 := hn.keep hbw
  have hbx := more (start w) (.cells #[.int .i64 x, .int .i64 y] 25)
  have hs : St W w w.heap.size b x y n1 n2 pl pr v v l0 (w.alloc (.cells #[.int .i64 x, .int .i64 y] 25)) :=
    ⟨hown.alloc _, Goes.below hbx, by rw [World.cell?_alloc_at _ _ _ _ rfl]; rfl, by rw [World.cell?_alloc_at _ _ _ _ rfl]; rfl, cell_keep hbx hn2.c0, cell_keep hbx hn2.c1, cell_keep hbx hn2.c2, cell_keep hbx hn2.c3,
      apart_new hown (Nat.le_refl _), apart_low hown hn.lt, by simp, Nat.lt_of_lt_of_le hn2.lt hbx.size, hbw.trans (hbx.mono hbw.size)⟩
  have hmid := neat_mid _ _ _ hneat
  have HNL := hide hmid.2.2.2.1
  have HNR := hide hmid.2.2.2.2
  have HN : Hid (Neat (l.row ++ (n1, n2) :: r.row)) := hide hneat
  have hll : l0.length + l.row.length + r.row.length ≤ 899999 := by simp only [Tr.row, List.length_append, List.length_cons] at hlen; omega
  have htl := tch_len l.row (x, y)
  have HL := hide hl
  have HR := hide hr
  have IHl := hide ihl
  have IHr := hide ihr
  clear hl hr hmid hneat hlen ihl ihr hn hn2 hbw hown hbx
  rcases (inferInstance : Decidable (x < n1)) with hc1 | hc1 <;> rcases (inferInstance : Decidable (n2 < y)) with hc3 | hc3 <;> rcases hc2 : touchB (n1, n2) (x, y)
  · have HL1 : Hid (l0 ++ tch (l.row ++ (n1, n2) :: r.row) (x, y) = l0) := hide (by rw [tch_split, hc2]; rw [tch_left _ _ _ _ HN.out hc1]; rw [tch_right _ _ _ _ HN.out hc3]; simp)
    have HT := hide hc2
    have d1 : decide (x < n1) = false := decide_eq_false hc1
    have d3 : decide (n2 < y) = false := decide_eq_false hc3
    clear hc1 hc3
    clear hc2
    go_enter Try.func54, Try.ntmps54
    go_wp2_with fail
    go_region_held3 (fun w' => w'.cell? ⟨w.heap.size, 0, none⟩ = some (.int .i64 x) ∧ w'.cell? ⟨w.heap.size, 1, none⟩ = some (.int .i64 y) ∧ w'.cell? ⟨b, 0, none⟩ = some (.int .i64 n1) ∧ w'.cell? ⟨b, 1, none⟩ = some (.int .i64 n2) ∧ w'.cell? ⟨b, 2, none⟩ = some (.pointer pl) ∧ w'.cell? ⟨b, 3, none⟩ = some (.pointer pr)) (first | exact St.cells (by assumption) | exact St.cells (St.drew (by assumption))) (fail)
    replace hs := hs.drew
    go_wp2_with fail
    go_region_held3 (fun w' => w'.cell? ⟨w.heap.size, 0, none⟩ = some (.int .i64 x) ∧ w'.cell? ⟨w.heap.size, 1, none⟩ = some (.int .i64 y) ∧ w'.cell? ⟨b, 0, none⟩ = some (.int .i64 n1) ∧ w'.cell? ⟨b, 1, none⟩ = some (.int .i64 n2) ∧ w'.cell? ⟨b, 2, none⟩ = some (.pointer pl) ∧ w'.cell? ⟨b, 3, none⟩ = some (.pointer pr)) (first | exact St.cells (by assumption) | exact St.cells (St.drew (by assumption))) ((first | (go_at_call 60; (with_reducible refine (touch_at' n1 n2 x y false _ HT.out).mono ?_); rintro e w2 ⟨rfl, hb2⟩; have hs2 := hs.drew.later hb2)))
    replace hs := hs2
    clear hs2
    go_wp2_with fail
    go_region_held3 (fun w' => w'.cell? ⟨w.heap.size, 0, none⟩ = some (.int .i64 x) ∧ w'.cell? ⟨w.heap.size, 1, none⟩ = some (.int .i64 y) ∧ w'.cell? ⟨b, 0, none⟩ = some (.int .i64 n1) ∧ w'.cell? ⟨b, 1, none⟩ = some (.int .i64 n2) ∧ w'.cell? ⟨b, 2, none⟩ = some (.pointer pl) ∧ w'.cell? ⟨b, 3, none⟩ = some (.pointer pr)) (first | exact St.cells (by assumption) | exact St.cells (St.drew (by assumption))) (fail)
    replace hs := hs.drew
    go_wp2_with fail
    go_ret
    exact ⟨_, rfl, by rw [show (Tr.node l (n1, n2) r).row = l.row ++ (n1, n2) :: r.row from rfl, HL1.out]; exact hs.own, hs.go⟩
  · have HL1 : Hid (l0 ++ tch (l.row ++ (n1, n2) :: r.row) (x, y) = l0 ++ [(n1, n2)]) := hide (by rw [tch_split, hc2]; rw [tch_left _ _ _ _ HN.out hc1]; rw [tch_right _ _ _ _ HN.out hc3]; simp)
    have HT := hide hc2
    have d1 : decide (x < n1) = false := decide_eq_false hc1
    have d3 : decide (n2 < y) = false := decide_eq_false hc3
    clear hc1 hc3
    clear hc2
    go_enter Try.func54, Try.ntmps54
    go_wp2_with fail
    go_region_held3 (fun w' => w'.cell? ⟨w.heap.size, 0, none⟩ = some (.int .i64 x) ∧ w'.cell? ⟨w.heap.size, 1, none⟩ = some (.int .i64 y) ∧ w'.cell? ⟨b, 0, none⟩ = some (.int .i64 n1) ∧ w'.cell? ⟨b, 1, none⟩ = some (.int .i64 n2) ∧ w'.cell? ⟨b, 2, none⟩ = some (.pointer pl) ∧ w'.cell? ⟨b, 3, none⟩ = some (.pointer pr)) (first | exact St.cells (by assumption) | exact St.cells (St.drew (by assumption))) (fail)
    replace hs := hs.drew
    go_wp2_with fail
    go_region_held3 (fun w' => w'.cell? ⟨w.heap.size, 0, none⟩ = some (.int .i64 x) ∧ w'.cell? ⟨w.heap.size, 1, none⟩ = some (.int .i64 y) ∧ w'.cell? ⟨b, 0, none⟩ = some (.int .i64 n1) ∧ w'.cell? ⟨b, 1, none⟩ = some (.int .i64 n2) ∧ w'.cell? ⟨b, 2, none⟩ = some (.pointer pl) ∧ w'.cell? ⟨b, 3, none⟩ = some (.pointer pr)) (first | exact St.cells (by assumption) | exact St.cells (St.drew (by assumption))) ((first | (go_at_call 60; (with_reducible refine (touch_at' n1 n2 x y true _ HT.out).mono ?_); rintro e w2 ⟨rfl, hb2⟩; have hs2 := hs.drew.later hb2)))
    replace hs := hs2
    clear hs2
    obtain ⟨k0, k1, k2, k3, k4, k5⟩ := hs.cells
    go_wp2_with (at_builtin; refine wp_oneG (p := (n1, n2)) rfl _ _ rfl rfl rfl rfl hs.own hs.below.size (by omega) ?_; intro v3 w3 hown3 hgo3)
    replace hs := hs.goes hown3 hgo3
    clear k0 k1 k2 k3 k4 k5
    go_region_held3 (fun w' => w'.cell? ⟨w.heap.size, 0, none⟩ = some (.int .i64 x) ∧ w'.cell? ⟨w.heap.size, 1, none⟩ = some (.int .i64 y) ∧ w'.cell? ⟨b, 0, none⟩ = some (.int .i64 n1) ∧ w'.cell? ⟨b, 1, none⟩ = some (.int .i64 n2) ∧ w'.cell? ⟨b, 2, none⟩ = some (.pointer pl) ∧ w'.cell? ⟨b, 3, none⟩ = some (.pointer pr)) (first | exact St.cells (by assumption) | exact St.cells (St.drew (by assumption))) (fail)
    replace hs := hs.drew
    go_wp2_with fail
    go_ret
    exact ⟨_, rfl, by rw [show (Tr.node l (n1, n2) r).row = l.row ++ (n1, n2) :: r.row from rfl, HL1.out]; exact hs.own, hs.go⟩
  · have HL1 : Hid (l0 ++ tch (l.row ++ (n1, n2) :: r.row) (x, y) = l0 ++ tch r.row (x, y)) := hide (by rw [tch_split, hc2]; rw [tch_left _ _ _ _ HN.out hc1]; simp)
    have HT := hide hc2
    have d1 : decide (x < n1) = false := decide_eq_false hc1
    have d3 : decide (n2 < y) = true := decide_eq_true hc3
    clear hc1 hc3
    clear hc2
    go_enter Try.func54, Try.ntmps54
    go_wp2_with fail
    go_region_held3 (fun w' => w'.cell? ⟨w.heap.size, 0, none⟩ = some (.int .i64 x) ∧ w'.cell? ⟨w.heap.size, 1, none⟩ = some (.int .i64 y) ∧ w'.cell? ⟨b, 0, none⟩ = some (.int .i64 n1) ∧ w'.cell? ⟨b, 1, none⟩ = some (.int .i64 n2) ∧ w'.cell? ⟨b, 2, none⟩ = some (.pointer pl) ∧ w'.cell? ⟨b, 3, none⟩ = some (.pointer pr)) (first | exact St.cells (by assumption) | exact St.cells (St.drew (by assumption))) (fail)
    replace hs := hs.drew
    go_wp2_with fail
    go_region_held3 (fun w' => w'.cell? ⟨w.heap.size, 0, none⟩ = some (.int .i64 x) ∧ w'.cell? ⟨w.heap.size, 1, none⟩ = some (.int .i64 y) ∧ w'.cell? ⟨b, 0, none⟩ = some (.int .i64 n1) ∧ w'.cell? ⟨b, 1, none⟩ = some (.int .i64 n2) ∧ w'.cell? ⟨b, 2, none⟩ = some (.pointer pl) ∧ w'.cell? ⟨b, 3, none⟩ = some (.pointer pr)) (first | exact St.cells (by assumption) | exact St.cells (St.drew (by assumption))) ((first | (go_at_call 60; (with_reducible refine (touch_at' n1 n2 x y false _ HT.out).mono ?_); rintro e w2 ⟨rfl, hb2⟩; have hs2 := hs.drew.later hb2)))
    replace hs := hs2
    clear hs2
    go_wp2_with fail
    go_region_held3 (fun w' => w'.cell? ⟨w.heap.size, 0, none⟩ = some (.int .i64 x) ∧ w'.cell? ⟨w.heap.size, 1, none⟩ = some (.int .i64 y) ∧ w'.cell? ⟨b, 0, none⟩ = some (.int .i64 n1) ∧ w'.cell? ⟨b, 1, none⟩ = some (.int .i64 n2) ∧ w'.cell? ⟨b, 2, none⟩ = some (.pointer pl) ∧ w'.cell? ⟨b, 3, none⟩ = some (.pointer pr)) (first | exact St.cells (by assumption) | exact St.cells (St.drew (by assumption))) (fail)
    replace hs := hs.drew
    go_wp2_with fail
    go_region_held3 (fun w' => w'.cell? ⟨w.heap.size, 0, none⟩ = some (.int .i64 x) ∧ w'.cell? ⟨w.heap.size, 1, none⟩ = some (.int .i64 y) ∧ w'.cell? ⟨b, 0, none⟩ = some (.int .i64 n1) ∧ w'.cell? ⟨b, 1, none⟩ = some (.int .i64 n2) ∧ w'.cell? ⟨b, 2, none⟩ = some (.pointer pl) ∧ w'.cell? ⟨b, 3, none⟩ = some (.pointer pr)) (first | exact St.cells (by assumption) | exact St.cells (St.drew (by assumption))) ((first | (go_at_call 54; (with_reducible refine (IHr.out pr x y v l0 _ HR.out hs.drew.below hs.drew.own HNR.out (by omega)).mono ?_); rintro e w4 ⟨v4, rfl, hown4, hgo4⟩; have hs4 := hs.drew.goes hown4 hgo4)))
    replace hs := hs4
    clear hs4
    go_wp2_with fail
    go_ret
    exact ⟨_, rfl, by rw [show (Tr.node l (n1, n2) r).row = l.row ++ (n1, n2) :: r.row from rfl, HL1.out]; exact hs.own, hs.go⟩
  · have HL1 : Hid (l0 ++ tch (l.row ++ (n1, n2) :: r.row) (x, y) = l0 ++ [(n1, n2)] ++ tch r.row (x, y)) := hide (by rw [tch_split, hc2]; rw [tch_left _ _ _ _ HN.out hc1]; simp)
    have HT := hide hc2
    have d1 : decide (x < n1) = false := decide_eq_false hc1
    have d3 : decide (n2 < y) = true := decide_eq_true hc3
    clear hc1 hc3
    clear hc2
    go_enter Try.func54, Try.ntmps54
    go_wp2_with fail
    go_region_held3 (fun w' => w'.cell? ⟨w.heap.size, 0, none⟩ = some (.int .i64 x) ∧ w'.cell? ⟨w.heap.size, 1, none⟩ = some (.int .i64 y) ∧ w'.cell? ⟨b, 0, none⟩ = some (.int .i64 n1) ∧ w'.cell? ⟨b, 1, none⟩ = some (.int .i64 n2) ∧ w'.cell? ⟨b, 2, none⟩ = some (.pointer pl) ∧ w'.cell? ⟨b, 3, none⟩ = some (.pointer pr)) (first | exact St.cells (by assumption) | exact St.cells (St.drew (by assumption))) (fail)
    replace hs := hs.drew
    go_wp2_with fail
    go_region_held3 (fun w' => w'.cell? ⟨w.heap.size, 0, none⟩ = some (.int .i64 x) ∧ w'.cell? ⟨w.heap.size, 1, none⟩ = some (.int .i64 y) ∧ w'.cell? ⟨b, 0, none⟩ = some (.int .i64 n1) ∧ w'.cell? ⟨b, 1, none⟩ = some (.int .i64 n2) ∧ w'.cell? ⟨b, 2, none⟩ = some (.pointer pl) ∧ w'.cell? ⟨b, 3, none⟩ = some (.pointer pr)) (first | exact St.cells (by assumption) | exact St.cells (St.drew (by assumption))) ((first | (go_at_call 60; (with_reducible refine (touch_at' n1 n2 x y true _ HT.out).mono ?_); rintro e w2 ⟨rfl, hb2⟩; have hs2 := hs.drew.later hb2)))
    replace hs := hs2
    clear hs2
    obtain ⟨k0, k1, k2, k3, k4, k5⟩ := hs.cells
    go_wp2_with (at_builtin; refine wp_oneG (p := (n1, n2)) rfl _ _ rfl rfl rfl rfl hs.own hs.below.size (by omega) ?_; intro v3 w3 hown3 hgo3)
    replace hs := hs.goes hown3 hgo3
    clear k0 k1 k2 k3 k4 k5
    go_region_held3 (fun w' => w'.cell? ⟨w.heap.size, 0, none⟩ = some (.int .i64 x) ∧ w'.cell? ⟨w.heap.size, 1, none⟩ = some (.int .i64 y) ∧ w'.cell? ⟨b, 0, none⟩ = some (.int .i64 n1) ∧ w'.cell? ⟨b, 1, none⟩ = some (.int .i64 n2) ∧ w'.cell? ⟨b, 2, none⟩ = some (.pointer pl) ∧ w'.cell? ⟨b, 3, none⟩ = some (.pointer pr)) (first | exact St.cells (by assumption) | exact St.cells (St.drew (by assumption))) (fail)
    replace hs := hs.drew
    go_wp2_with fail
    go_region_held3 (fun w' => w'.cell? ⟨w.heap.size, 0, none⟩ = some (.int .i64 x) ∧ w'.cell? ⟨w.heap.size, 1, none⟩ = some (.int .i64 y) ∧ w'.cell? ⟨b, 0, none⟩ = some (.int .i64 n1) ∧ w'.cell? ⟨b, 1, none⟩ = some (.int .i64 n2) ∧ w'.cell? ⟨b, 2, none⟩ = some (.pointer pl) ∧ w'.cell? ⟨b, 3, none⟩ = some (.pointer pr)) (first | exact St.cells (by assumption) | exact St.cells (St.drew (by assumption))) ((first | (go_at_call 54; (with_reducible refine (IHr.out pr x y v3 (l0 ++ [(n1, n2)]) _ HR.out hs.drew.below hs.drew.own HNR.out (by simp only [List.length_append, List.length_singleton]; omega)).mono ?_); rintro e w4 ⟨v4, rfl, hown4, hgo4⟩; have hs4 := hs.drew.goes hown4 hgo4)))
    replace hs := hs4
    clear hs4
    go_wp2_with fail
    go_ret
    exact ⟨_, rfl, by rw [show (Tr.node l (n1, n2) r).row = l.row ++ (n1, n2) :: r.row from rfl, HL1.out]; exact hs.own, hs.go⟩
  · have HL1 : Hid (l0 ++ tch (l.row ++ (n1, n2) :: r.row) (x, y) = l0 ++ tch l.row (x, y)) := hide (by rw [tch_split, hc2]; rw [tch_right _ _ _ _ HN.out hc3]; simp)
    have HT := hide hc2
    have d1 : decide (x < n1) = true := decide_eq_true hc1
    have d3 : decide (n2 < y) = false := decide_eq_false hc3
    clear hc1 hc3
    clear hc2
    go_enter Try.func54, Try.ntmps54
    go_wp2_with fail
    go_region_held3 (fun w' => w'.cell? ⟨w.heap.size, 0, none⟩ = some (.int .i64 x) ∧ w'.cell? ⟨w.heap.size, 1, none⟩ = some (.int .i64 y) ∧ w'.cell? ⟨b, 0, none⟩ = some (.int .i64 n1) ∧ w'.cell? ⟨b, 1, none⟩ = some (.int .i64 n2) ∧ w'.cell? ⟨b, 2, none⟩ = some (.pointer pl) ∧ w'.cell? ⟨b, 3, none⟩ = some (.pointer pr)) (first | exact St.cells (by assumption) | exact St.cells (St.drew (by assumption))) (fail)
    replace hs := hs.drew
    go_wp2_with fail
    go_region_held3 (fun w' => w'.cell? ⟨w.heap.size, 0, none⟩ = some (.int .i64 x) ∧ w'.cell? ⟨w.heap.size, 1, none⟩ = some (.int .i64 y) ∧ w'.cell? ⟨b, 0, none⟩ = some (.int .i64 n1) ∧ w'.cell? ⟨b, 1, none⟩ = some (.int .i64 n2) ∧ w'.cell? ⟨b, 2, none⟩ = some (.pointer pl) ∧ w'.cell? ⟨b, 3, none⟩ = some (.pointer pr)) (first | exact St.cells (by assumption) | exact St.cells (St.drew (by assumption))) ((first | (go_at_call 54; (with_reducible refine (IHl.out pl x y v l0 _ HL.out hs.drew.below hs.drew.own HNL.out (by omega)).mono ?_); rintro e w1 ⟨v1, rfl, hown1, hgo1⟩; have hs1 := hs.drew.goes hown1 hgo1)))
    replace hs := hs1
    clear hs1
    go_wp2_with fail
    go_region_held3 (fun w' => w'.cell? ⟨w.heap.size, 0, none⟩ = some (.int .i64 x) ∧ w'.cell? ⟨w.heap.size, 1, none⟩ = some (.int .i64 y) ∧ w'.cell? ⟨b, 0, none⟩ = some (.int .i64 n1) ∧ w'.cell? ⟨b, 1, none⟩ = some (.int .i64 n2) ∧ w'.cell? ⟨b, 2, none⟩ = some (.pointer pl) ∧ w'.cell? ⟨b, 3, none⟩ = some (.pointer pr)) (first | exact St.cells (by assumption) | exact St.cells (St.drew (by assumption))) ((first | (go_at_call 60; (with_reducible refine (touch_at' n1 n2 x y false _ HT.out).mono ?_); rintro e w2 ⟨rfl, hb2⟩; have hs2 := hs.drew.later hb2)))
    replace hs := hs2
    clear hs2
    go_wp2_with fail
    go_region_held3 (fun w' => w'.cell? ⟨w.heap.size, 0, none⟩ = some (.int .i64 x) ∧ w'.cell? ⟨w.heap.size, 1, none⟩ = some (.int .i64 y) ∧ w'.cell? ⟨b, 0, none⟩ = some (.int .i64 n1) ∧ w'.cell? ⟨b, 1, none⟩ = some (.int .i64 n2) ∧ w'.cell? ⟨b, 2, none⟩ = some (.pointer pl) ∧ w'.cell? ⟨b, 3, none⟩ = some (.pointer pr)) (first | exact St.cells (by assumption) | exact St.cells (St.drew (by assumption))) (fail)
    replace hs := hs.drew
    go_wp2_with fail
    go_ret
    exact ⟨_, rfl, by rw [show (Tr.node l (n1, n2) r).row = l.row ++ (n1, n2) :: r.row from rfl, HL1.out]; exact hs.own, hs.go⟩
  · have HL1 : Hid (l0 ++ tch (l.row ++ (n1, n2) :: r.row) (x, y) = l0 ++ tch l.row (x, y) ++ [(n1, n2)]) := hide (by rw [tch_split, hc2]; rw [tch_right _ _ _ _ HN.out hc3]; simp)
    have HT := hide hc2
    have d1 : decide (x < n1) = true := decide_eq_true hc1
    have d3 : decide (n2 < y) = false := decide_eq_false hc3
    clear hc1 hc3
    clear hc2
    go_enter Try.func54, Try.ntmps54
    go_wp2_with fail
    go_region_held3 (fun w' => w'.cell? ⟨w.heap.size, 0, none⟩ = some (.int .i64 x) ∧ w'.cell? ⟨w.heap.size, 1, none⟩ = some (.int .i64 y) ∧ w'.cell? ⟨b, 0, none⟩ = some (.int .i64 n1) ∧ w'.cell? ⟨b, 1, none⟩ = some (.int .i64 n2) ∧ w'.cell? ⟨b, 2, none⟩ = some (.pointer pl) ∧ w'.cell? ⟨b, 3, none⟩ = some (.pointer pr)) (first | exact St.cells (by assumption) | exact St.cells (St.drew (by assumption))) (fail)
    replace hs := hs.drew
    go_wp2_with fail
    go_region_held3 (fun w' => w'.cell? ⟨w.heap.size, 0, none⟩ = some (.int .i64 x) ∧ w'.cell? ⟨w.heap.size, 1, none⟩ = some (.int .i64 y) ∧ w'.cell? ⟨b, 0, none⟩ = some (.int .i64 n1) ∧ w'.cell? ⟨b, 1, none⟩ = some (.int .i64 n2) ∧ w'.cell? ⟨b, 2, none⟩ = some (.pointer pl) ∧ w'.cell? ⟨b, 3, none⟩ = some (.pointer pr)) (first | exact St.cells (by assumption) | exact St.cells (St.drew (by assumption))) ((first | (go_at_call 54; (with_reducible refine (IHl.out pl x y v l0 _ HL.out hs.drew.below hs.drew.own HNL.out (by omega)).mono ?_); rintro e w1 ⟨v1, rfl, hown1, hgo1⟩; have hs1 := hs.drew.goes hown1 hgo1)))
    replace hs := hs1
    clear hs1
    go_wp2_with fail
    go_region_held3 (fun w' => w'.cell? ⟨w.heap.size, 0, none⟩ = some (.int .i64 x) ∧ w'.cell? ⟨w.heap.size, 1, none⟩ = some (.int .i64 y) ∧ w'.cell? ⟨b, 0, none⟩ = some (.int .i64 n1) ∧ w'.cell? ⟨b, 1, none⟩ = some (.int .i64 n2) ∧ w'.cell? ⟨b, 2, none⟩ = some (.pointer pl) ∧ w'.cell? ⟨b, 3, none⟩ = some (.pointer pr)) (first | exact St.cells (by assumption) | exact St.cells (St.drew (by assumption))) ((first | (go_at_call 60; (with_reducible refine (touch_at' n1 n2 x y true _ HT.out).mono ?_); rintro e w2 ⟨rfl, hb2⟩; have hs2 := hs.drew.later hb2)))
    replace hs := hs2
    clear hs2
    obtain ⟨k0, k1, k2, k3, k4, k5⟩ := hs.cells
    go_wp2_with (at_builtin; refine wp_oneG (p := (n1, n2)) rfl _ _ rfl rfl rfl rfl hs.own hs.below.size (by simp only [List.length_append]; omega) ?_; intro v3 w3 hown3 hgo3)
    replace hs := hs.goes hown3 hgo3
    clear k0 k1 k2 k3 k4 k5
    go_region_held3 (fun w' => w'.cell? ⟨w.heap.size, 0, none⟩ = some (.int .i64 x) ∧ w'.cell? ⟨w.heap.size, 1, none⟩ = some (.int .i64 y) ∧ w'.cell? ⟨b, 0, none⟩ = some (.int .i64 n1) ∧ w'.cell? ⟨b, 1, none⟩ = some (.int .i64 n2) ∧ w'.cell? ⟨b, 2, none⟩ = some (.pointer pl) ∧ w'.cell? ⟨b, 3, none⟩ = some (.pointer pr)) (first | exact St.cells (by assumption) | exact St.cells (St.drew (by assumption))) (fail)
    replace hs := hs.drew
    go_wp2_with fail
    go_ret
    exact ⟨_, rfl, by rw [show (Tr.node l (n1, n2) r).row = l.row ++ (n1, n2) :: r.row from rfl, HL1.out]; exact hs.own, hs.go⟩
  · have HL1 : Hid (l0 ++ tch (l.row ++ (n1, n2) :: r.row) (x, y) = l0 ++ tch l.row (x, y) ++ tch r.row (x, y)) := hide (by rw [tch_split, hc2]; simp)
    have HT := hide hc2
    have d1 : decide (x < n1) = true := decide_eq_true hc1
    have d3 : decide (n2 < y) = true := decide_eq_true hc3
    clear hc1 hc3
    clear hc2
    go_enter Try.func54, Try.ntmps54
    go_wp2_with fail
    go_region_held3 (fun w' => w'.cell? ⟨w.heap.size, 0, none⟩ = some (.int .i64 x) ∧ w'.cell? ⟨w.heap.size, 1, none⟩ = some (.int .i64 y) ∧ w'.cell? ⟨b, 0, none⟩ = some (.int .i64 n1) ∧ w'.cell? ⟨b, 1, none⟩ = some (.int .i64 n2) ∧ w'.cell? ⟨b, 2, none⟩ = some (.pointer pl) ∧ w'.cell? ⟨b, 3, none⟩ = some (.pointer pr)) (first | exact St.cells (by assumption) | exact St.cells (St.drew (by assumption))) (fail)
    replace hs := hs.drew
    go_wp2_with fail
    go_region_held3 (fun w' => w'.cell? ⟨w.heap.size, 0, none⟩ = some (.int .i64 x) ∧ w'.cell? ⟨w.heap.size, 1, none⟩ = some (.int .i64 y) ∧ w'.cell? ⟨b, 0, none⟩ = some (.int .i64 n1) ∧ w'.cell? ⟨b, 1, none⟩ = some (.int .i64 n2) ∧ w'.cell? ⟨b, 2, none⟩ = some (.pointer pl) ∧ w'.cell? ⟨b, 3, none⟩ = some (.pointer pr)) (first | exact St.cells (by assumption) | exact St.cells (St.drew (by assumption))) ((first | (go_at_call 54; (with_reducible refine (IHl.out pl x y v l0 _ HL.out hs.drew.below hs.drew.own HNL.out (by omega)).mono ?_); rintro e w1 ⟨v1, rfl, hown1, hgo1⟩; have hs1 := hs.drew.goes hown1 hgo1)))
    replace hs := hs1
    clear hs1
    go_wp2_with fail
    go_region_held3 (fun w' => w'.cell? ⟨w.heap.size, 0, none⟩ = some (.int .i64 x) ∧ w'.cell? ⟨w.heap.size, 1, none⟩ = some (.int .i64 y) ∧ w'.cell? ⟨b, 0, none⟩ = some (.int .i64 n1) ∧ w'.cell? ⟨b, 1, none⟩ = some (.int .i64 n2) ∧ w'.cell? ⟨b, 2, none⟩ = some (.pointer pl) ∧ w'.cell? ⟨b, 3, none⟩ = some (.pointer pr)) (first | exact St.cells (by assumption) | exact St.cells (St.drew (by assumption))) ((first | (go_at_call 60; (with_reducible refine (touch_at' n1 n2 x y false _ HT.out).mono ?_); rintro e w2 ⟨rfl, hb2⟩; have hs2 := hs.drew.later hb2)))
    replace hs := hs2
    clear hs2
    go_wp2_with fail
    go_region_held3 (fun w' => w'.cell? ⟨w.heap.size, 0, none⟩ = some (.int .i64 x) ∧ w'.cell? ⟨w.heap.size, 1, none⟩ = some (.int .i64 y) ∧ w'.cell? ⟨b, 0, none⟩ = some (.int .i64 n1) ∧ w'.cell? ⟨b, 1, none⟩ = some (.int .i64 n2) ∧ w'.cell? ⟨b, 2, none⟩ = some (.pointer pl) ∧ w'.cell? ⟨b, 3, none⟩ = some (.pointer pr)) (first | exact St.cells (by assumption) | exact St.cells (St.drew (by assumption))) (fail)
    replace hs := hs.drew
    go_wp2_with fail
    go_region_held3 (fun w' => w'.cell? ⟨w.heap.size, 0, none⟩ = some (.int .i64 x) ∧ w'.cell? ⟨w.heap.size, 1, none⟩ = some (.int .i64 y) ∧ w'.cell? ⟨b, 0, none⟩ = some (.int .i64 n1) ∧ w'.cell? ⟨b, 1, none⟩ = some (.int .i64 n2) ∧ w'.cell? ⟨b, 2, none⟩ = some (.pointer pl) ∧ w'.cell? ⟨b, 3, none⟩ = some (.pointer pr)) (first | exact St.cells (by assumption) | exact St.cells (St.drew (by assumption))) ((first | (go_at_call 54; (with_reducible refine (IHr.out pr x y v1 (l0 ++ tch l.row (x, y)) _ HR.out hs.drew.below hs.drew.own HNR.out (by simp only [List.length_append]; omega)).mono ?_); rintro e w4 ⟨v4, rfl, hown4, hgo4⟩; have hs4 := hs.drew.goes hown4 hgo4)))
    replace hs := hs4
    clear hs4
    go_wp2_with fail
    go_ret
    exact ⟨_, rfl, by rw [show (Tr.node l (n1, n2) r).row = l.row ++ (n1, n2) :: r.row from rfl, HL1.out]; exact hs.own, hs.go⟩
  · have HL1 : Hid (l0 ++ tch (l.row ++ (n1, n2) :: r.row) (x, y) = l0 ++ tch l.row (x, y) ++ [(n1, n2)] ++ tch r.row (x, y)) := hide (by rw [tch_split, hc2]; simp)
    have HT := hide hc2
    have d1 : decide (x < n1) = true := decide_eq_true hc1
    have d3 : decide (n2 < y) = true := decide_eq_true hc3
    clear hc1 hc3
    clear hc2
    go_enter Try.func54, Try.ntmps54
    go_wp2_with fail
    go_region_held3 (fun w' => w'.cell? ⟨w.heap.size, 0, none⟩ = some (.int .i64 x) ∧ w'.cell? ⟨w.heap.size, 1, none⟩ = some (.int .i64 y) ∧ w'.cell? ⟨b, 0, none⟩ = some (.int .i64 n1) ∧ w'.cell? ⟨b, 1, none⟩ = some (.int .i64 n2) ∧ w'.cell? ⟨b, 2, none⟩ = some (.pointer pl) ∧ w'.cell? ⟨b, 3, none⟩ = some (.pointer pr)) (first | exact St.cells (by assumption) | exact St.cells (St.drew (by assumption))) (fail)
    replace hs := hs.drew
    go_wp2_with fail
    go_region_held3 (fun w' => w'.cell? ⟨w.heap.size, 0, none⟩ = some (.int .i64 x) ∧ w'.cell? ⟨w.heap.size, 1, none⟩ = some (.int .i64 y) ∧ w'.cell? ⟨b, 0, none⟩ = some (.int .i64 n1) ∧ w'.cell? ⟨b, 1, none⟩ = some (.int .i64 n2) ∧ w'.cell? ⟨b, 2, none⟩ = some (.pointer pl) ∧ w'.cell? ⟨b, 3, none⟩ = some (.pointer pr)) (first | exact St.cells (by assumption) | exact St.cells (St.drew (by assumption))) ((first | (go_at_call 54; (with_reducible refine (IHl.out pl x y v l0 _ HL.out hs.drew.below hs.drew.own HNL.out (by omega)).mono ?_); rintro e w1 ⟨v1, rfl, hown1, hgo1⟩; have hs1 := hs.drew.goes hown1 hgo1)))
    replace hs := hs1
    clear hs1
    go_wp2_with fail
    go_region_held3 (fun w' => w'.cell? ⟨w.heap.size, 0, none⟩ = some (.int .i64 x) ∧ w'.cell? ⟨w.heap.size, 1, none⟩ = some (.int .i64 y) ∧ w'.cell? ⟨b, 0, none⟩ = some (.int .i64 n1) ∧ w'.cell? ⟨b, 1, none⟩ = some (.int .i64 n2) ∧ w'.cell? ⟨b, 2, none⟩ = some (.pointer pl) ∧ w'.cell? ⟨b, 3, none⟩ = some (.pointer pr)) (first | exact St.cells (by assumption) | exact St.cells (St.drew (by assumption))) ((first | (go_at_call 60; (with_reducible refine (touch_at' n1 n2 x y true _ HT.out).mono ?_); rintro e w2 ⟨rfl, hb2⟩; have hs2 := hs.drew.later hb2)))
    replace hs := hs2
    clear hs2
    obtain ⟨k0, k1, k2, k3, k4, k5⟩ := hs.cells
    go_wp2_with (at_builtin; refine wp_oneG (p := (n1, n2)) rfl _ _ rfl rfl rfl rfl hs.own hs.below.size (by simp only [List.length_append]; omega) ?_; intro v3 w3 hown3 hgo3)
    replace hs := hs.goes hown3 hgo3
    clear k0 k1 k2 k3 k4 k5
    go_region_held3 (fun w' => w'.cell? ⟨w.heap.size, 0, none⟩ = some (.int .i64 x) ∧ w'.cell? ⟨w.heap.size, 1, none⟩ = some (.int .i64 y) ∧ w'.cell? ⟨b, 0, none⟩ = some (.int .i64 n1) ∧ w'.cell? ⟨b, 1, none⟩ = some (.int .i64 n2) ∧ w'.cell? ⟨b, 2, none⟩ = some (.pointer pl) ∧ w'.cell? ⟨b, 3, none⟩ = some (.pointer pr)) (first | exact St.cells (by assumption) | exact St.cells (St.drew (by assumption))) (fail)
    replace hs := hs.drew
    go_wp2_with fail
    go_region_held3 (fun w' => w'.cell? ⟨w.heap.size, 0, none⟩ = some (.int .i64 x) ∧ w'.cell? ⟨w.heap.size, 1, none⟩ = some (.int .i64 y) ∧ w'.cell? ⟨b, 0, none⟩ = some (.int .i64 n1) ∧ w'.cell? ⟨b, 1, none⟩ = some (.int .i64 n2) ∧ w'.cell? ⟨b, 2, none⟩ = some (.pointer pl) ∧ w'.cell? ⟨b, 3, none⟩ = some (.pointer pr)) (first | exact St.cells (by assumption) | exact St.cells (St.drew (by assumption))) ((first | (go_at_call 54; (with_reducible refine (IHr.out pr x y v3 ((l0 ++ tch l.row (x, y)) ++ [(n1, n2)]) _ HR.out hs.drew.below hs.drew.own HNR.out (by simp only [List.length_append, List.length_singleton]; omega)).mono ?_); rintro e w4 ⟨v4, rfl, hown4, hgo4⟩; have hs4 := hs.drew.goes hown4 hgo4)))
    replace hs := hs4
    clear hs4
    go_wp2_with fail
    go_ret
    exact ⟨_, rfl, by rw [show (Tr.node l (n1, n2) r).row = l.row ++ (n1, n2) :: r.row from rfl, HL1.out]; exact hs.own, hs.go⟩
end Go.Proofs.Ytkjkegjekfebpaa

/- Package spans: a set in memory; touching, All, Long, Deep. -/
import Derived.Test.YtkjkegjekfebpaaSnI
import Derived.Test.YtkjkegjekfebpaaSpH
namespace Go.Proofs.Ytkjkegjekfebpaa
open Go.RowKit Spn Go.Sort

theorem Goes.all {v : Value} {w w' : World} (h : Goes (.slice none 0 0) w v w') : Below w.heap.size w w' := ⟨h.grown.os, h.grown.tape, h.grown.output, h.grown.size, fun k hk => h.grown.block k hk (by simp [Value.ownBlock])⟩
theorem own_nil (w : World) (B : Nat) : Own w B (.slice none 0 0) [] := World.ownsRow_nil _ _ _ _
/-- at block g lies a set of this neat row. -/
def SetAt (w : World) (g : Nat) (l : List Sp) : Prop := ∃ p t, w.heap[g]? = some (.cells #[.pointer p] 41 (0, 0)) ∧ Tree w p t ∧ t.row = l ∧ t.Bal ∧ Neat l
theorem SetAt.lt {w : World} {g : Nat} {l : List Sp} (h : SetAt w g l) : g < w.heap.size := by
  obtain ⟨p, t, h, _⟩ := h
  exact (Array.getElem?_eq_some_iff.1 h).1
theorem SetAt.neat {w : World} {g : Nat} {l : List Sp} (h : SetAt w g l) : Neat l := by
  obtain ⟨p, t, _, _, _, _, h⟩ := h
  exact h
theorem SetAt.keep {w w1 : World} {g : Nat} {l : List Sp} (h : SetAt w g l) (hb : Below w.heap.size w w1) : SetAt w1 g l := by
  have hlt := h.lt
  obtain ⟨p, t, h0, h1, h2⟩ := h
  exact ⟨p, t, (hb.block g hlt).trans h0, h1.keep hb, h2⟩
theorem SetAt.root {w : World} {g : Nat} {l : List Sp} (h : SetAt w g l) : ∃ p t, w.cell? ⟨g, 0, none⟩ = some (.pointer p) ∧ Tree w p t ∧ t.row = l ∧ t.Bal := by
  obtain ⟨p, t, h0, h1, h2, h3, _⟩ := h
  exact ⟨p, t, by rw [cell_of_row w g 0 _ _ _ h0]; rfl, h1, h2, h3⟩

set_option maxRecDepth 100000 in
set_option maxHeartbeats 1600000 in
theorem touch_row (g : Nat) (l : List Sp) (x y : Int) (w : World) (h : SetAt w g l) (hlen : l.length ≤ 800000) :
    Calls Try.prog 36 #[.pointer (some ⟨g, 0, none⟩), .agg #[.int .i64 x, .int .i64 y]] w (Gives w (tch l (x, y))) := by
  have hn := h.neat
  obtain ⟨p, t, c0, ht, hrow, hbal⟩ := h.root
  have hbx := more (start w) (.cells #[.int .i64 x, .int .i64 y] 25)
  have HS : (w.alloc (.cells #[.int .i64 x, .int .i64 y] 25)).cell? ⟨w.heap.size, 0, none⟩ = some (.int .i64 x) ∧ (w.alloc (.cells #[.int .i64 x, .int .i64 y] 25)).cell? ⟨w.heap.size, 1, none⟩ = some (.int .i64 y) ∧ (w.alloc (.cells #[.int .i64 x, .int .i64 y] 25)).cell? ⟨g, 0, none⟩ = some (.pointer p) :=
    ⟨by rw [World.cell?_alloc_at _ _ _ _ rfl]; rfl, by rw [World.cell?_alloc_at _ _ _ _ rfl]; rfl, cell_keep hbx c0⟩
  have HT := hide ht
  have HR := hide hrow
  have HN := hide hn
  have HLEN := hide hlen
  clear h c0 ht hrow hn hbal hlen
  go_enter Try.func36, Try.ntmps36
  go_wp2_with fail
  go_region_held3 (fun w' => w'.cell? ⟨w.heap.size, 0, none⟩ = some (.int .i64 x) ∧ w'.cell? ⟨w.heap.size, 1, none⟩ = some (.int .i64 y) ∧ w'.cell? ⟨g, 0, none⟩ = some (.pointer p)) (first | exact keep3 (by assumption) (by assumption) | exact keep3 (start _).drew (by assumption)) ((first
    | (go_at_call 54; (with_reducible refine (touching_any w t p x y (.slice none 0 0) [] _ HT.out hbx.drew (own_nil _ _) (by rw [HR.out]; exact HN.out) (by rw [HR.out]; have := HLEN.out; simp; omega)).mono ?_); rintro e w2 ⟨v2, rfl, hown2, hgo2⟩; have hb2 := hgo2.to (own_nil _ _) hbx.drew; have hbd := hgo2.all)))
  go_wp2_with fail
  go_ret
  exact ⟨_, rfl, by rw [HR.out] at hown2; exact hown2, hb2⟩

set_option maxHeartbeats 400000 in
theorem setAll_any (g : Nat) (l : List Sp) (w : World) (h : SetAt w g l) (hlen : l.length ≤ 800000) :
    Calls Try.prog 17 #[.pointer (some ⟨g, 0, none⟩)] w (Gives w l) := by
  have HW := hide (tch_whole l h.neat)
  have H := hide h
  have HLEN := hide hlen
  clear h hlen
  go_enter Try.func17, Try.ntmps17
  go_wp2_with fail
  refine (touch_row g l 0 52596000 _ H.out HLEN.out).mono ?_
  rintro e w1 ⟨v, rfl, hown, hb⟩
  go_wp2_with fail
  go_ret
  exact ⟨_, rfl, by rw [HW.out] at hown; exact hown, hb⟩

set_option maxHeartbeats 400000 in
theorem setDeep_any (g : Nat) (l : List Sp) (w : World) (h : SetAt w g l) :
    Calls Try.prog 27 #[.pointer (some ⟨g, 0, none⟩)] w fun e w' => (∃ t : Tr, t.row = l ∧ t.Bal ∧ e = .returned (.int .i64 (t.deep : Int))) ∧ w' = w := by
  obtain ⟨p, t, c0, ht, hrow, hbal⟩ := h.root
  have HT := hide ht
  have HR := hide hrow
  have HB := hide hbal
  clear h ht hrow hbal
  go_enter Try.func27, Try.ntmps27
  go_wp2_with fail
  refine (deep_any p t _ HT.out).mono ?_
  rintro e w1 ⟨rfl, rfl⟩
  go_wp2_with fail
  go_ret
  exact ⟨⟨t, HR.out, HB.out, rfl⟩, rfl⟩

theorem sum_node (l r : Tr) (a : Sp) : sumL (Tr.node l a r).row = sumL l.row + long a + sumL r.row := by
  show sumL (l.row ++ a :: r.row) = _
  rw [sumL_append]
  show sumL l.row + (long a + sumL r.row) = _
  omega
theorem Calls.regrown_same {P : Program} {f : FuncId} {args : Array Value} {w : World} {d : Nat} {os : Array Obj} {v : Value}
    (h : Calls P f args (grow (redrawn w d) os) fun e w' => e = .returned v ∧ w' = grow (redrawn w d) os) : Calls P f args (grow (redrawn w d) os) fun e w'' => e = .returned v ∧ ∃ p : Regrown, w'' = grow (redrawn w p.d) p.os :=
  h.mono fun _ _ ⟨he, hb⟩ => ⟨he, ⟨⟨d, os⟩, hb⟩⟩

set_option maxRecDepth 100000 in
set_option maxHeartbeats 1600000 in
theorem long_tree (t : Tr) : ∀ (p : Option Addr) (w : World), Tree w p t → t.row.length ≤ 1000000 →
    Calls Try.prog 42 #[.pointer p] w fun e w' => e = .returned (.int .i64 (sumL t.row)) ∧ Below w.heap.size w w' := by
  induction t with
  | nil =>
    intro p w h _
    obtain rfl : p = none := h
    go_enter Try.func42, Try.ntmps42
    go_wp2_with fail
    go_ret
    exact ⟨rfl, start _⟩
  | node l a r ihl ihr =>
    intro p w h hlen
    obtain ⟨b, pl, pr, rfl, hn, hl, hr⟩ := h
    obtain ⟨x, y⟩ := a
    have hll : l.row.length + r.row.length ≤ 999999 := by simp only [Tr.row, List.length_append, List.length_cons] at hlen; omega
    have s1 := sumL_bd l.row
    have s2 := sumL_bd r.row
    have s3 := long_bd (x, y)
    have HSUM := hide (sum_node l r (x, y))
    have HL := hide hl
    have HR := hide hr
    have IHl := hide ihl
    have IHr := hide ihr
    have g1 : ∀ d os, (grow (redrawn w d) os).cell? ⟨b, 0, none⟩ = some (.int .i64 x) := fun d os => cell_regrown hn.c0 d os
    have g2 : ∀ d os, (grow (redrawn w d) os).cell? ⟨b, 1, none⟩ = some (.int .i64 y) := fun d os => cell_regrown hn.c1 d os
    have g3 : ∀ d os, (grow (redrawn w d) os).cell? ⟨b, 2, none⟩ = some (.pointer pl) := fun d os => cell_regrown hn.c2 d os
    have g4 : ∀ d os, (grow (redrawn w d) os).cell? ⟨b, 3, none⟩ = some (.pointer pr) := fun d os => cell_regrown hn.c3 d os
    have q1 : IntKind.i64.wrap (sumL l.row + long (x, y)) = sumL l.row + long (x, y) := IntWalk.i64_in _ (by omega)
    have q2 : IntKind.i64.wrap (sumL l.row + long (x, y) + sumL r.row) = sumL l.row + long (x, y) + sumL r.row := IntWalk.i64_in _ (by omega)
    have hl1 : l.row.length ≤ 1000000 := by omega
    have hr1 : r.row.length ≤ 1000000 := by omega
    clear hl hr ihl ihr hn hlen hll s1 s2 s3
    go_enter Try.func42, Try.ntmps42
    go_wp2_with fail
    refine wp_region_quiet_below (by kernel_rfl) (by kernel_rfl) ?_
    repeat (first
      | go_big_quiet_step ((first | (go_at_call 42; with_reducible exact Calls.regrown_of (IHl.out pl _ (HL.out.keep (below_regrown w _ _)) hl1)) | (go_at_call 42; with_reducible exact Calls.regrown_of (IHr.out pr _ (HR.out.keep (below_regrown w _ _)) hr1)) | (go_at_call 56; exact Calls.regrown_of (long_any x y _))))
      | quiet_step ((first | (go_at_call 42; with_reducible exact Calls.regrown_of (IHl.out pl _ (HL.out.keep (below_regrown w _ _)) hl1)) | (go_at_call 42; with_reducible exact Calls.regrown_of (IHr.out pr _ (HR.out.keep (below_regrown w _ _)) hr1)) | (go_at_call 56; exact Calls.regrown_of (long_any x y _)))))
    refine wpQuiet_nil ?_
    intro _ hw'
    obtain ⟨⟨nq, osq⟩, hw''⟩ := hw'
    subst hw''
    go_wp2_with fail
    go_ret
    exact ⟨ret_int HSUM.out.symm, below_regrown w nq osq⟩

set_option maxHeartbeats 400000 in
theorem setLong_any (g : Nat) (l : List Sp) (w : World) (h : SetAt w g l) (hlen : l.length ≤ 1000000) :
    Calls Try.prog 21 #[.pointer (some ⟨g, 0, none⟩)] w fun e w' => e = .returned (.int .i64 (sumL l)) ∧ Below w.heap.size w w' := by
  obtain ⟨p, t, c0, ht, hrow, hbal⟩ := h.root
  subst hrow
  have HT := hide ht
  clear h ht hbal
  go_enter Try.func21, Try.ntmps21
  go_wp2_with fail
  refine (long_tree t p _ HT.out hlen).mono ?_
  rintro e w1 ⟨rfl, hb⟩
  go_wp2_with fail
  go_ret
  exact ⟨rfl, hb⟩
end Go.Proofs.Ytkjkegjekfebpaa

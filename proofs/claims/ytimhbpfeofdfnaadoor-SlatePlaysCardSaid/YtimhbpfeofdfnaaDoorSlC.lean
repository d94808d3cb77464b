/- Walks of package slate, the small ones: Of, New, power's limit and use, Limit, On, Text. By hand. -/
import Derived.Test.YtimhbpfeofdfnaaDoorSlB
namespace Go.Proofs.YtimhbpfeofdfnaaDoor
open Go.RowKit Sl

/-- a call makes a slate. -/
def Makes (w : World) (s : St) (e : Ending) (w' : World) : Prop := ∃ X g, e = .returned (.pointer (some ⟨X, 0, none⟩)) ∧ SlateAt w' X g s ∧ w.heap.size ≤ X ∧ w.heap.size ≤ g ∧ Below w.heap.size w w'
theorem slate_new {w : World} {g : Nat} {s : St} {cap : Nat} (t : TextAt w g s.t cap) (ty : TypeId) :
    SlateAt (w.alloc (.cells #[.slice (some ⟨g, 0, none⟩) s.t.length cap, .bool s.off, .bool s.lim, .int .i64 (s.left : Int)] ty)) w.heap.size g s :=
  ⟨fun e => by have := t.lt; omega, ⟨cap, by rw [World.cell?_alloc_at _ _ _ _ rfl]; rfl, t.of_block (heap_alloc_old w _ t.lt)⟩, by rw [World.cell?_alloc_at _ _ _ _ rfl]; rfl, by rw [World.cell?_alloc_at _ _ _ _ rfl]; rfl, by rw [World.cell?_alloc_at _ _ _ _ rfl]; rfl,
   fun j => by have := World.frozen?_alloc_mark w #[.slice (some ⟨g, 0, none⟩) s.t.length cap, .bool s.off, .bool s.lim, .int .i64 (s.left : Int)] ty 0 0 j; rw [this]; simp⟩

theorem SlateAt.drew {w : World} {X g : Nat} {s : St} (h : SlateAt w X g s) : SlateAt w.drew X g s := h.of_blocks rfl rfl

set_option maxRecDepth 100000 in
set_option maxHeartbeats 1000000 in
theorem of_any (T : Tx) (w : World) (hs : T.length ≤ 100000000) :
    Calls Tryd.prog 8 #[.string (str T)] w (Makes w (newS T)) := by
  have hcv := bytes_conv (str T) T.length (str_size T)
  have HG := hide (grownCap_ge w T.length 0 5)
  have HL := hide (grownCap_le_maxLen w T.length 0 5 (by unfold maxLen; omega))
  go_enter Tryd.func8, Tryd.ntmps8
  go_wp2_with fail
  have ht := text_new w (str T) _ (by rw [str_size]; exact HG.out) HL.out
  rw [str_list] at ht
  have hk := slate_new (s := newS T) ht 50
  rw [World.size_alloc] at hk
  go_ret
  exact ⟨w.heap.size + 1, w.heap.size, rfl, hk.drew, Nat.le_succ _, Nat.le_refl _, (more (more (start w) _) _).drew⟩
theorem new_any (w : World) : Calls Tryd.prog 22 #[] w (Makes w (newS [])) := by
  go_enter Tryd.func22, Tryd.ntmps22
  go_wp2_with fail
  refine (of_any [] w (by simp)).mono ?_
  rintro e w' ⟨X, g, rfl, h⟩
  go_wp2_with fail
  go_ret
  exact ⟨X, g, rfl, h⟩

/-- max, min of numbers in the code's words. -/
theorem SlateAt.lim {w : World} {X g : Nat} {s : St} (h : SlateAt w X g s) (n : Nat) :
    SlateAt ((w.setCell ⟨X, 2, none⟩ (.bool true)).setCell ⟨X, 3, none⟩ (.int .i64 (n : Int))) X g ⟨s.t, s.off, true, n⟩ := by
  obtain ⟨cap, t1, t2⟩ := h.text
  have e : ∀ W : World, ∀ k v, (W.setCell ⟨X, k, none⟩ v).heap[g]? = W.heap[g]? := fun W k v => Below.heap_setCell W _ v g (fun e => h.ne (by rw [e]))
  refine ⟨h.ne, ⟨cap, ?_, (t2.of_block (by rw [e, e]))⟩, ?_, ?_, ?_, fun j => ?_⟩
  · simp [World.cell?_setCell_other, t1]
  · simp [World.cell?_setCell_other, h.offc]
  · simp [World.cell?_setCell_other, h.limc, World.cell?_setCell_same]
  · simp [World.cell?_setCell_other, h.leftc, World.cell?_setCell_same]
  · simp only [World.frozen?_setCell]; exact h.free j
set_option maxRecDepth 100000 in
set_option maxHeartbeats 1000000 in
theorem plimit_any (X g : Nat) (s : St) (n : Int) (w : World) (h : SlateAt w X g s) :
    Calls Tryd.prog 25 #[.pointer (some ⟨X, 1, none⟩), .int .i64 n] w (fun e w' => e = .returned (.tuple #[]) ∧ SlateAt w' X g (limitS s n) ∧ Chg X g w w') := by
  have c2 := h.limc
  have c3 := h.leftc
  have f2 := h.free 2
  have f3 := h.free 3
  have HS := hide h.lim
  clear h
  rcases Int.lt_or_le n 0 with hn | hn
  · have HN := hide (show limitS s n = ⟨s.t, s.off, true, 0⟩ by unfold limitS; rw [Int.toNat_of_nonpos (by omega)])
    go_enter Tryd.func25, Tryd.ntmps25
    go_wp2_with fail
    go_end0
    rw [HN.out]
    exact ⟨rfl, HS.out 0, ((Chg.refl X g w).set 2 _).set 3 _⟩
  · obtain ⟨k, rfl⟩ := Int.eq_ofNat_of_zero_le hn
    have HN := hide (show limitS s (k : Int) = ⟨s.t, s.off, true, k⟩ by unfold limitS; rw [Int.toNat_natCast])
    go_enter Tryd.func25, Tryd.ntmps25
    go_wp2_with fail
    go_end0
    rw [HN.out]
    exact ⟨rfl, HS.out k, ((Chg.refl X g w).set 2 _).set 3 _⟩
theorem limit_any (X g : Nat) (s : St) (n : Int) (w : World) (h : SlateAt w X g s) :
    Calls Tryd.prog 12 #[.pointer (some ⟨X, 0, none⟩), .int .i64 n] w (fun e w' => e = .returned (.tuple #[]) ∧ SlateAt w' X g (limitS s n) ∧ Chg X g w w') := by
  have c0 := h.offc
  go_enter Tryd.func12, Tryd.ntmps12
  go_wp2_with fail
  refine (plimit_any X g s n w h).mono ?_
  rintro e w' ⟨rfl, h1, h2⟩
  go_wp2_with fail
  go_end0
  exact ⟨rfl, h1, h2⟩
theorem on_any (X g : Nat) (s : St) (w : World) (h : SlateAt w X g s) :
    Calls Tryd.prog 18 #[.pointer (some ⟨X, 0, none⟩)] w (fun e w' => e = .returned (.bool (!s.off)) ∧ w' = w) := by
  have c1 := h.offc
  go_enter Tryd.func18, Tryd.ntmps18
  go_wp2_with fail
  go_ret
  exact ⟨rfl, rfl⟩
theorem text_any (X g : Nat) (s : St) (w : World) (h : SlateAt w X g s) :
    Calls Tryd.prog 17 #[.pointer (some ⟨X, 0, none⟩)] w (fun e w' => e = .returned (.string (str s.t)) ∧ w' = w) := by
  obtain ⟨cap, c0, ht⟩ := h.text
  have hcv := ht.conv
  go_enter Tryd.func17, Tryd.ntmps17
  go_wp2_with fail
  go_ret
  exact ⟨rfl, rfl⟩

/-- how many of so many bytes go in; what is left. -/
def usedN (s : St) (n : Nat) : Nat := if s.lim = true then min n s.left else n
def useS (s : St) (n : Nat) : St := if s.lim = true then ⟨s.t, decide (s.left < n), true, s.left - n⟩ else s
theorem SlateAt.used {w : World} {X g : Nat} {s : St} (h : SlateAt w X g s) (hl : s.lim = true) (o : Bool) (n : Nat) :
    SlateAt ((w.setCell ⟨X, 3, none⟩ (.int .i64 (n : Int))).setCell ⟨X, 1, none⟩ (.bool o)) X g ⟨s.t, o, true, n⟩ := by
  obtain ⟨cap, t1, t2⟩ := h.text
  have e : ∀ W : World, ∀ k v, (W.setCell ⟨X, k, none⟩ v).heap[g]? = W.heap[g]? := fun W k v => Below.heap_setCell W _ v g (fun e => h.ne (by rw [e]))
  refine ⟨h.ne, ⟨cap, ?_, (t2.of_block (by rw [e, e]))⟩, ?_, ?_, ?_, fun j => ?_⟩
  · simp [World.cell?_setCell_other, t1]
  · simp [World.cell?_setCell_other, h.offc, World.cell?_setCell_same]
  · simp [World.cell?_setCell_other, h.limc, hl]
  · simp [World.cell?_setCell_other, h.leftc, World.cell?_setCell_same]
  · simp only [World.frozen?_setCell]; exact h.free j
set_option maxRecDepth 100000 in
set_option maxHeartbeats 1000000 in
theorem use_any (X g : Nat) (s : St) (n : Nat) (w : World) (h : SlateAt w X g s) (hn : n ≤ 1000000000) (hz : s.left ≤ 9223372036854775807) :
    Calls Tryd.prog 34 #[.pointer (some ⟨X, 1, none⟩), .int .i64 (n : Int)] w (fun e w' => e = .returned (.int .i64 (usedN s n : Int)) ∧ SlateAt w' X g (useS s n) ∧ Chg X g w w') := by
  have c1 := h.offc
  have c2 := h.limc
  have c3 := h.leftc
  have f1 := h.free 1
  have f3 := h.free 3
  have HS := hide h
  have HU := hide (fun hl o n => h.used (w := w) hl o n)
  clear h
  cases hl : s.lim with
  | false =>
    rw [hl] at c2
    have HN := hide (show usedN s n = n ∧ useS s n = s by simp [usedN, useS, hl])
    go_enter Tryd.func34, Tryd.ntmps34
    go_wp2_with fail
    go_ret
    rw [HN.out.1, HN.out.2]
    exact ⟨rfl, HS.out, Chg.refl _ _ _⟩
  | true =>
    rw [hl] at c2
    have hl2 := HU.out hl
    obtain ⟨lf, hlf⟩ : ∃ lf, s.left = lf := ⟨_, rfl⟩
    rw [hlf] at c3 hz
    have HU2 := hide hl2
    clear hl2
    by_cases hc : n ≤ lf
    · have HN := hide (show usedN s n = n ∧ useS s n = ⟨s.t, false, true, lf - n⟩ by
        subst hlf
        unfold usedN useS
        rw [if_pos hl, if_pos hl, Nat.min_eq_left hc, decide_eq_false (by omega)]
        exact ⟨rfl, rfl⟩)
      have HM := hide (show ((lf : Int) - (n : Int)) = ((lf - n : Nat) : Int) by omega)
      clear hl hlf
      go_enter Tryd.func34, Tryd.ntmps34
      go_wp2_with fail
      go_ret
      rw [HN.out.1, HN.out.2, HM.out]
      exact ⟨rfl, HU2.out false _, ((Chg.refl X g w).set 3 _).set 1 _⟩
    · have HN := hide (show usedN s n = lf ∧ useS s n = ⟨s.t, true, true, 0⟩ by
        subst hlf
        unfold usedN useS
        rw [if_pos hl, if_pos hl, Nat.min_eq_right (by omega), decide_eq_true (by omega), show s.left - n = 0 by omega]
        exact ⟨rfl, rfl⟩)
      have hc2 : (lf : Int) < (n : Int) := by omega
      clear hl hlf
      go_enter Tryd.func34, Tryd.ntmps34
      go_wp2_with fail
      go_ret
      rw [HN.out.1, HN.out.2]
      exact ⟨rfl, HU2.out true 0, ((Chg.refl X g w).set 3 _).set 1 _⟩
end Go.Proofs.YtimhbpfeofdfnaaDoor

/- Package spans: newNode. -/
import Derived.Test.YtkjkegjekfebpaaSnA
namespace Go.Proofs.Ytkjkegjekfebpaa
open Go.RowKit Spn

theorem node_new (W : World) (f t : Int) (pl pr : Option Addr) (d : Nat) : Node (W.alloc (.cells #[.int .i64 f, .int .i64 t, .pointer pl, .pointer pr, .int .i64 (d : Int)] 68)) W.heap.size (f, t) pl pr d :=
  ⟨by simp, by rw [World.cell?_alloc_at _ _ _ _ rfl]; rfl, by rw [World.cell?_alloc_at _ _ _ _ rfl]; rfl, by rw [World.cell?_alloc_at _ _ _ _ rfl]; rfl, by rw [World.cell?_alloc_at _ _ _ _ rfl]; rfl, by rw [World.cell?_alloc_at _ _ _ _ rfl]; rfl⟩

set_option maxHeartbeats 800000 in
theorem newNode_any (pl pr : Option Addr) (f g : Int) (l r : Tr) (w : World) (hl : Tree w pl l) (hr : Tree w pr r) (hdl : l.deep ≤ 100000000) (hdr : r.deep ≤ 100000000) :
    Calls Try.prog 48 #[.pointer pl, .agg #[.int .i64 f, .int .i64 g], .pointer pr] w (Makes w (.node l (f, g) r)) := by
  have hbx := more (start w) (.cells #[.int .i64 f, .int .i64 g] 25)
  have HL := hide (hl.keep hbx)
  have HR := hide (hr.keep hbx)
  have hd : (Tr.node l (f, g) r).deep = 1 + max l.deep r.deep := rfl
  have HT : ∀ (w1 : World) (N : Nat), w1.heap.size = N → Below w.heap.size w w1 → Tree (w1.alloc (.cells #[.int .i64 f, .int .i64 g, .pointer pl, .pointer pr, .int .i64 ((1 + max l.deep r.deep : Nat) : Int)] 68)) (some ⟨N, 0, none⟩) (.node l (f, g) r) := fun w1 N hN hb => by
    subst hN; exact ⟨_, _, _, rfl, by rw [hd]; exact node_new _ _ _ _ _ _, (hl.keep hb).keep (more (start _) _), (hr.keep hb).keep (more (start _) _)⟩
  have HTT := hide HT
  clear HT hd hl hr
  rcases Nat.lt_or_ge l.deep r.deep with hc | hc
  · have hM : IntKind.i64.wrap (1 + (r.deep : Int)) = ((1 + max l.deep r.deep : Nat) : Int) := by
      rw [show ((1 + max l.deep r.deep : Nat) : Int) = 1 + (r.deep : Int) by omega]; exact IntWalk.i64_in _ (by omega)
    generalize 1 + max l.deep r.deep = D at HTT hM
    go_enter Try.func48, Try.ntmps48
    go_wp2_with fail
    go_region_held3 (fun w' => w'.cell? ⟨w.heap.size, 0, none⟩ = some (.int .i64 f) ∧ w'.cell? ⟨w.heap.size, 1, none⟩ = some (.int .i64 g)) (first | (simp; done) | (refine ⟨?_, ?_⟩ <;> (simp [*] <;> done))) ((first | (go_at_call 47; (with_reducible refine (deep_any pl l _ (HL.out.keep (start _).drew)).mono ?_); rintro e w' ⟨rfl, rfl⟩) | (go_at_call 47; (with_reducible refine (deep_any pr r _ (HR.out.keep (start _).drew)).mono ?_); rintro e w' ⟨rfl, rfl⟩)))
    all_goals
      go_wp2_with fail
      go_ret
      exact ⟨_, rfl, (HTT.out _ _ (by simp) hbx).keep (start _).drew, (more hbx _).drew⟩
  · have hM : IntKind.i64.wrap (1 + (l.deep : Int)) = ((1 + max l.deep r.deep : Nat) : Int) := by
      rw [show ((1 + max l.deep r.deep : Nat) : Int) = 1 + (l.deep : Int) by omega]; exact IntWalk.i64_in _ (by omega)
    have hc' : ¬ l.deep < r.deep := by omega
    generalize 1 + max l.deep r.deep = D at HTT hM
    go_enter Try.func48, Try.ntmps48
    go_wp2_with fail
    go_region_held3 (fun w' => w'.cell? ⟨w.heap.size, 0, none⟩ = some (.int .i64 f) ∧ w'.cell? ⟨w.heap.size, 1, none⟩ = some (.int .i64 g)) (first | (simp; done) | (refine ⟨?_, ?_⟩ <;> (simp [*] <;> done))) ((first | (go_at_call 47; (with_reducible refine (deep_any pl l _ (HL.out.keep (start _).drew)).mono ?_); rintro e w' ⟨rfl, rfl⟩) | (go_at_call 47; (with_reducible refine (deep_any pr r _ (HR.out.keep (start _).drew)).mono ?_); rintro e w' ⟨rfl, rfl⟩)))
    all_goals
      go_wp2_with fail
      go_ret
      exact ⟨_, rfl, (HTT.out _ _ (by simp) hbx).keep (start _).drew, (more hbx _).drew⟩
end Go.Proofs.Ytkjkegjekfebpaa

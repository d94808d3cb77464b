/- Package span: All of every row, Within. -/
import Derived.Test.YtkjkegjekfebpaaSpG
namespace Go.Proofs.Ytkjkegjekfebpaa
open Go.RowKit Spn Go.Sort

set_option maxHeartbeats 400000 in
theorem all_any (A : Option Addr) (n c : Nat) (l : List Sp) (w : World) (h : Row w A l) (he : n = l.length) (hn : l.length ≤ 1000000) :
    Calls Try.prog 33 #[.slice A n c] w (Gives w (canon l)) := by
  have HR := hide h
  have HE := hide he
  clear h he
  go_enter Try.func33, Try.ntmps33
  go_wp2_with fail
  refine (union_any A n c l _ HR.out HE.out hn).mono ?_
  rintro e w1 ⟨v, rfl, hown, hb⟩
  go_wp2_with fail
  go_ret
  exact ⟨v, rfl, hown, hb⟩

set_option maxRecDepth 100000 in
set_option maxHeartbeats 800000 in
theorem within_any (f t g u : Int) (w : World) :
    Calls Try.prog 45 #[.agg #[.int .i64 f, .int .i64 t], .agg #[.int .i64 g, .int .i64 u]] w fun e w' => e = .returned (.bool (withinB (f, t) (g, u))) ∧ Below w.heap.size w w' := by
  go_enter Try.func45, Try.ntmps45
  go_wp2_with fail
  generalize hW : ((w.alloc (.cells #[.int .i64 f, .int .i64 t] 25)).alloc (.cells #[.int .i64 g, .int .i64 u] 25)) = W
  have g1 : W.cell? ⟨w.heap.size, 0, none⟩ = some (.int .i64 f) := by rw [← hW, World.cell?_alloc_past _ _ _ (by simp), World.cell?_alloc_at _ _ _ _ rfl]; rfl
  have g2 : W.cell? ⟨w.heap.size, 1, none⟩ = some (.int .i64 t) := by rw [← hW, World.cell?_alloc_past _ _ _ (by simp), World.cell?_alloc_at _ _ _ _ rfl]; rfl
  have g3 : W.cell? ⟨w.heap.size + 1, 0, none⟩ = some (.int .i64 g) := by rw [← hW, World.cell?_alloc_at _ _ _ _ (by simp)]; rfl
  have g4 : W.cell? ⟨w.heap.size + 1, 1, none⟩ = some (.int .i64 u) := by rw [← hW, World.cell?_alloc_at _ _ _ _ (by simp)]; rfl
  have hb : Below w.heap.size w W := by rw [← hW]; exact more (more (start _) _) _
  clear hW
  have f1 : ∀ d os, (grow (redrawn W d) os).cell? ⟨w.heap.size, 0, none⟩ = some (.int .i64 f) := fun d os => cell_regrown g1 d os
  have f2 : ∀ d os, (grow (redrawn W d) os).cell? ⟨w.heap.size, 1, none⟩ = some (.int .i64 t) := fun d os => cell_regrown g2 d os
  have f3 : ∀ d os, (grow (redrawn W d) os).cell? ⟨w.heap.size + 1, 0, none⟩ = some (.int .i64 g) := fun d os => cell_regrown g3 d os
  have f4 : ∀ d os, (grow (redrawn W d) os).cell? ⟨w.heap.size + 1, 1, none⟩ = some (.int .i64 u) := fun d os => cell_regrown g4 d os
  clear g1 g2 g3 g4
  refine wp_region_quiet_below (by kernel_rfl) (by kernel_rfl) ?_
  repeat (first
    | go_big_quiet_step ((first | (go_at_call 44; exact Calls.regrown_of (meet_any _ _ _ _ _)) | (go_at_call 56; exact Calls.regrown_of (long_any _ _ _))))
    | quiet_step ((first | (go_at_call 44; exact Calls.regrown_of (meet_any _ _ _ _ _)) | (go_at_call 56; exact Calls.regrown_of (long_any _ _ _)))))
  refine wpQuiet_nil ?_
  intro _ hw'
  obtain ⟨⟨nq, osq⟩, hw''⟩ := hw'
  subst hw''
  have hbb : Below w.heap.size w (grow (redrawn W nq) osq) := andthen hb (below_regrown W nq osq)
  go_wp2_with fail
  go_ret
  exact ⟨rfl, hbb⟩

end Go.Proofs.Ytkjkegjekfebpaa

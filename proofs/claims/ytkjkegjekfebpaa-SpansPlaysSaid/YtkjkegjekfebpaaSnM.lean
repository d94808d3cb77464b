/- Package spans: Has, Meets, appendValid, Part, Lack. -/
import Derived.Test.YtkjkegjekfebpaaSnL
namespace Go.Proofs.Ytkjkegjekfebpaa
open Go.RowKit Spn

def hasB (l : List Sp) (a : Sp) : Bool := decide ((lackR l a).length = 0)
def meetsB (l : List Sp) (a : Sp) : Bool := decide (0 < (partR l a).length)

set_option maxRecDepth 100000 in
set_option maxHeartbeats 1600000 in
theorem has_any (g : Nat) (l : List Sp) (x y : Int) (w : World) (h : SetAt w g l) :
    Calls Try.prog 25 #[.pointer (some ⟨g, 0, none⟩), .agg #[.int .i64 x, .int .i64 y]] w fun e w' => e = .returned (.bool (hasB l (x, y))) ∧ Below w.heap.size w w' := by
  have hbx := more (start w) (.cells #[.int .i64 x, .int .i64 y] 25)
  have HN := hide h.neat
  have H := hide (h.keep hbx.drew)
  have HBX := hide hbx
  have HS : (w.alloc (.cells #[.int .i64 x, .int .i64 y] 25)).cell? ⟨w.heap.size, 0, none⟩ = some (.int .i64 x) ∧ (w.alloc (.cells #[.int .i64 x, .int .i64 y] 25)).cell? ⟨w.heap.size, 1, none⟩ = some (.int .i64 y) :=
    ⟨by rw [World.cell?_alloc_at _ _ _ _ rfl]; rfl, by rw [World.cell?_alloc_at _ _ _ _ rfl]; rfl⟩
  clear h hbx
  go_enter Try.func25, Try.ntmps25
  go_wp2_with fail
  go_region_held3 (fun w' => w'.cell? ⟨w.heap.size, 0, none⟩ = some (.int .i64 x) ∧ w'.cell? ⟨w.heap.size, 1, none⟩ = some (.int .i64 y)) (first | exact keep2 (by assumption) (by assumption) | exact keep2 (start _).drew (by assumption)) ((first
    | (go_at_call 46; (with_reducible refine (meeting_any g l x y _ H.out).mono ?_); rintro e w2 ⟨q1, q2, rfl, hM, hb2⟩)
    | (go_at_call 45; (with_reducible refine (within_any x y q1 q2 _).mono ?_); rintro e w3 ⟨rfl, hb3⟩)))
  go_wp2_with fail
  go_ret
  exact ⟨ret_bool (met_has l (x, y) (q1, q2) HN.out hM), andthen (andthen HBX.out.drew hb2) hb3⟩

set_option maxRecDepth 100000 in
set_option maxHeartbeats 1600000 in
theorem meets_any (g : Nat) (l : List Sp) (x y : Int) (w : World) (h : SetAt w g l) :
    Calls Try.prog 26 #[.pointer (some ⟨g, 0, none⟩), .agg #[.int .i64 x, .int .i64 y]] w fun e w' => e = .returned (.bool (meetsB l (x, y))) ∧ Below w.heap.size w w' := by
  have hbx := more (start w) (.cells #[.int .i64 x, .int .i64 y] 25)
  have HN := hide h.neat
  have H := hide (h.keep hbx.drew)
  have HBX := hide hbx
  have HS : (w.alloc (.cells #[.int .i64 x, .int .i64 y] 25)).cell? ⟨w.heap.size, 0, none⟩ = some (.int .i64 x) ∧ (w.alloc (.cells #[.int .i64 x, .int .i64 y] 25)).cell? ⟨w.heap.size, 1, none⟩ = some (.int .i64 y) :=
    ⟨by rw [World.cell?_alloc_at _ _ _ _ rfl]; rfl, by rw [World.cell?_alloc_at _ _ _ _ rfl]; rfl⟩
  clear h hbx
  go_enter Try.func26, Try.ntmps26
  go_wp2_with fail
  go_region_held3 (fun w' => w'.cell? ⟨w.heap.size, 0, none⟩ = some (.int .i64 x) ∧ w'.cell? ⟨w.heap.size, 1, none⟩ = some (.int .i64 y)) (first | exact keep2 (by assumption) (by assumption) | exact keep2 (start _).drew (by assumption)) ((first
    | (go_at_call 46; (with_reducible refine (meeting_any g l x y _ H.out).mono ?_); rintro e w2 ⟨q1, q2, rfl, hM, hb2⟩)
    | (go_at_call 34; (with_reducible refine (is_any q1 q2 _).mono ?_); rintro e w3 ⟨rfl, hb3⟩)))
  go_wp2_with fail
  go_ret
  exact ⟨ret_bool (met_meets l (x, y) (q1, q2) HN.out hM), andthen (andthen HBX.out.drew hb2) hb3⟩

theorem valid_eq (l : List Sp) (x y : Int) : l ++ valid [(x, y)] = if okB (x, y) = true then l ++ [(x, y)] else l := by
  rw [valid_one]
  cases h : okB (x, y)
  · rw [if_neg ((okB_not _).1 h)]; simp
  · rw [if_pos ((okB_iff _).1 h)]; simp
set_option maxRecDepth 100000 in
set_option maxHeartbeats 800000 in
theorem appendValid_any (B : Nat) (v : Value) (l : List Sp) (x y : Int) (w : World) (hown : Own w B v l) (hB : B ≤ w.heap.size) (hn : l.length ≤ 1000000) :
    Calls Try.prog 43 #[v, .agg #[.int .i64 x, .int .i64 y]] w (Adds w B v (l ++ valid [(x, y)])) := by
  have hbx := more (start w) (.cells #[.int .i64 x, .int .i64 y] 25)
  have HO := hide (Own.keep hown hbx)
  have HV := hide (valid_eq l x y)
  clear hown
  cases hok : okB (x, y)
  · have HK := hide hok
    have HE : Hid (l ++ valid [(x, y)] = l) := hide (by rw [HV.out, hok]; rfl)
    clear hok
    go_enter Try.func43, Try.ntmps43
    go_wp2_with fail
    refine (is_at x y false _ HK.out).mono ?_
    rintro e w1 ⟨rfl, hb1⟩
    go_wp2_with fail
    go_ret
    exact ⟨_, rfl, by rw [HE.out]; exact Own.keep HO.out hb1, Goes.below (andthen hbx hb1)⟩
  · have HK := hide hok
    have HE : Hid (l ++ valid [(x, y)] = l ++ [(x, y)]) := hide (by rw [HV.out, hok]; rfl)
    clear hok
    have s0 : (w.alloc (.cells #[.int .i64 x, .int .i64 y] 25)).cell? ⟨w.heap.size, 0, none⟩ = some (.int .i64 x) := by rw [World.cell?_alloc_at _ _ _ _ rfl]; rfl
    have s1 : (w.alloc (.cells #[.int .i64 x, .int .i64 y] 25)).cell? ⟨w.heap.size, 1, none⟩ = some (.int .i64 y) := by rw [World.cell?_alloc_at _ _ _ _ rfl]; rfl
    go_enter Try.func43, Try.ntmps43
    go_wp2_with fail
    refine (is_at x y true _ HK.out).mono ?_
    rintro e w1 ⟨rfl, hb1⟩
    have t0 := cell_keep hb1 s0
    have t1 := cell_keep hb1 s1
    have hown1 := hide (Own.keep HO.out hb1)
    have hB1 : B ≤ w1.heap.size := Nat.le_trans hB (andthen hbx hb1).size
    go_wp2_with (at_builtin; refine wp_oneG (p := (x, y)) rfl _ _ rfl rfl rfl rfl hown1.out hB1 hn ?_; intro v2 w2 hown2 hgo2)
    go_ret
    exact ⟨_, rfl, by rw [HE.out]; exact hown2, (Goes.below (andthen hbx hb1)).trans hgo2⟩
end Go.Proofs.Ytkjkegjekfebpaa

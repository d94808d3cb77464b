/- DaysPeriods walked: all ways together. Written by recipes/da10.py. -/
import Derived.Test.YtcjkghpcjjbjhaaDaPer1
import Derived.Test.YtcjkghpcjjbjhaaDaPer2
import Derived.Test.YtcjkghpcjjbjhaaDaPer3
namespace Go.Proofs.Ytcjkghpcjjbjhaa
open Go.RowKit Rul Go.Sort

set_option maxRecDepth 100000 in
set_option maxHeartbeats 4000000 in
theorem periods_any (fr ev ct un : Int) (D M Y : Option Addr) (dn dc mn mc yn yc : Nat) (ds : List Wd) (ms ys : List Int) (x k : Int) (w : World) (h : (dn = ds.length ∧ ds.length ≤ maxLen ∧ RowD w D ds) ∧ (mn = ms.length ∧ ms.length ≤ maxLen ∧ RowI w M ms) ∧ (yn = ys.length ∧ ys.length ≤ maxLen ∧ RowI w Y ys)) (x0 : 0 ≤ x) (x1 : x ≤ 65535) (k0 : 0 ≤ k) (k1 : k ≤ 255) :
    Calls Try.prog 4 #[.agg #[.int .i64 fr, .int .i64 ev, .int .i64 ct, .int .i64 un, .slice D dn dc, .slice M mn mc, .slice Y yn yc], .int .u16 x, .int .u8 k] w (Ans w (.bool true)) := by
  obtain ⟨s, hs⟩ : ∃ s, x % 36525 = s := ⟨_, rfl⟩
  have t1 : x.tmod 36525 = x % 36525 := Int.tmod_eq_emod_of_nonneg (by omega)
  cases k1' : fewB dn mn yn
  · have K1 := hide k1'
    have HBX := hide (more (start w) (.cells #[.int .i64 fr, .int .i64 ev, .int .i64 ct, .int .i64 un, .slice D dn dc, .slice M mn mc, .slice Y yn yc] 25))
    have s0 : (w.alloc (.cells #[.int .i64 fr, .int .i64 ev, .int .i64 ct, .int .i64 un, .slice D dn dc, .slice M mn mc, .slice Y yn yc] 25)).cell? ⟨w.heap.size, 0, none⟩ = some (.int .i64 fr) := by rw [World.cell?_alloc_at _ _ _ _ rfl]; rfl
    have s1 : (w.alloc (.cells #[.int .i64 fr, .int .i64 ev, .int .i64 ct, .int .i64 un, .slice D dn dc, .slice M mn mc, .slice Y yn yc] 25)).cell? ⟨w.heap.size, 1, none⟩ = some (.int .i64 ev) := by rw [World.cell?_alloc_at _ _ _ _ rfl]; rfl
    have s2 : (w.alloc (.cells #[.int .i64 fr, .int .i64 ev, .int .i64 ct, .int .i64 un, .slice D dn dc, .slice M mn mc, .slice Y yn yc] 25)).cell? ⟨w.heap.size, 2, none⟩ = some (.int .i64 ct) := by rw [World.cell?_alloc_at _ _ _ _ rfl]; rfl
    have s3 : (w.alloc (.cells #[.int .i64 fr, .int .i64 ev, .int .i64 ct, .int .i64 un, .slice D dn dc, .slice M mn mc, .slice Y yn yc] 25)).cell? ⟨w.heap.size, 3, none⟩ = some (.int .i64 un) := by rw [World.cell?_alloc_at _ _ _ _ rfl]; rfl
    have s4 : (w.alloc (.cells #[.int .i64 fr, .int .i64 ev, .int .i64 ct, .int .i64 un, .slice D dn dc, .slice M mn mc, .slice Y yn yc] 25)).cell? ⟨w.heap.size, 4, none⟩ = some (.slice D dn dc) := by rw [World.cell?_alloc_at _ _ _ _ rfl]; rfl
    have s5 : (w.alloc (.cells #[.int .i64 fr, .int .i64 ev, .int .i64 ct, .int .i64 un, .slice D dn dc, .slice M mn mc, .slice Y yn yc] 25)).cell? ⟨w.heap.size, 5, none⟩ = some (.slice M mn mc) := by rw [World.cell?_alloc_at _ _ _ _ rfl]; rfl
    have s6 : (w.alloc (.cells #[.int .i64 fr, .int .i64 ev, .int .i64 ct, .int .i64 un, .slice D dn dc, .slice M mn mc, .slice Y yn yc] 25)).cell? ⟨w.heap.size, 6, none⟩ = some (.slice Y yn yc) := by rw [World.cell?_alloc_at _ _ _ _ rfl]; rfl
    clear k1' h
    go_enter Try.func4, Try.ntmps4
    go_wp2_with fail
    generalize (w.alloc (.cells #[.int .i64 fr, .int .i64 ev, .int .i64 ct, .int .i64 un, .slice D dn dc, .slice M mn mc, .slice Y yn yc] 25)) = W at *
    refine (known_any _).mono ?_
    rintro e u1 ⟨rfl, hb⟩
    replace HBX := hide (andthen HBX.out hb)
    replace s0 := cell_keep hb s0
    replace s1 := cell_keep hb s1
    replace s2 := cell_keep hb s2
    replace s3 := cell_keep hb s3
    replace s4 := cell_keep hb s4
    replace s5 := cell_keep hb s5
    replace s6 := cell_keep hb s6
    clear hb
    go_wp2_with fail
    refine (ans_is (few_any fr ev ct un D M Y dn dc mn mc yn yc _) K1.out).mono ?_
    rintro e u2 ⟨rfl, hb⟩
    replace HBX := hide (andthen HBX.out hb)
    replace s0 := cell_keep hb s0
    replace s1 := cell_keep hb s1
    replace s2 := cell_keep hb s2
    replace s3 := cell_keep hb s3
    replace s4 := cell_keep hb s4
    replace s5 := cell_keep hb s5
    replace s6 := cell_keep hb s6
    clear hb
    go_wp2_with fail
    go_ret
    exact ⟨rfl, HBX.out⟩
  have HB : Lies (w.alloc (.cells #[.int .i64 fr, .int .i64 ev, .int .i64 ct, .int .i64 un, .slice D dn dc, .slice M mn mc, .slice Y yn yc] 25)) D dn M mn Y yn ds ms ys := (rows_lies5 h k1').keep (more (start w) _)
  clear h
  cases hi : isB ⟨fr, ev, ct, un, ds, ms, ys⟩
  · have K1 := hide k1'
    have HI := hide hi
    have HL := hide HB
    have HBX := hide (more (start w) (.cells #[.int .i64 fr, .int .i64 ev, .int .i64 ct, .int .i64 un, .slice D dn dc, .slice M mn mc, .slice Y yn yc] 25))
    have s0 : (w.alloc (.cells #[.int .i64 fr, .int .i64 ev, .int .i64 ct, .int .i64 un, .slice D dn dc, .slice M mn mc, .slice Y yn yc] 25)).cell? ⟨w.heap.size, 0, none⟩ = some (.int .i64 fr) := by rw [World.cell?_alloc_at _ _ _ _ rfl]; rfl
    have s1 : (w.alloc (.cells #[.int .i64 fr, .int .i64 ev, .int .i64 ct, .int .i64 un, .slice D dn dc, .slice M mn mc, .slice Y yn yc] 25)).cell? ⟨w.heap.size, 1, none⟩ = some (.int .i64 ev) := by rw [World.cell?_alloc_at _ _ _ _ rfl]; rfl
    have s2 : (w.alloc (.cells #[.int .i64 fr, .int .i64 ev, .int .i64 ct, .int .i64 un, .slice D dn dc, .slice M mn mc, .slice Y yn yc] 25)).cell? ⟨w.heap.size, 2, none⟩ = some (.int .i64 ct) := by rw [World.cell?_alloc_at _ _ _ _ rfl]; rfl
    have s3 : (w.alloc (.cells #[.int .i64 fr, .int .i64 ev, .int .i64 ct, .int .i64 un, .slice D dn dc, .slice M mn mc, .slice Y yn yc] 25)).cell? ⟨w.heap.size, 3, none⟩ = some (.int .i64 un) := by rw [World.cell?_alloc_at _ _ _ _ rfl]; rfl
    have s4 : (w.alloc (.cells #[.int .i64 fr, .int .i64 ev, .int .i64 ct, .int .i64 un, .slice D dn dc, .slice M mn mc, .slice Y yn yc] 25)).cell? ⟨w.heap.size, 4, none⟩ = some (.slice D dn dc) := by rw [World.cell?_alloc_at _ _ _ _ rfl]; rfl
    have s5 : (w.alloc (.cells #[.int .i64 fr, .int .i64 ev, .int .i64 ct, .int .i64 un, .slice D dn dc, .slice M mn mc, .slice Y yn yc] 25)).cell? ⟨w.heap.size, 5, none⟩ = some (.slice M mn mc) := by rw [World.cell?_alloc_at _ _ _ _ rfl]; rfl
    have s6 : (w.alloc (.cells #[.int .i64 fr, .int .i64 ev, .int .i64 ct, .int .i64 un, .slice D dn dc, .slice M mn mc, .slice Y yn yc] 25)).cell? ⟨w.heap.size, 6, none⟩ = some (.slice Y yn yc) := by rw [World.cell?_alloc_at _ _ _ _ rfl]; rfl
    clear k1' hi HB
    go_enter Try.func4, Try.ntmps4
    go_wp2_with fail
    generalize (w.alloc (.cells #[.int .i64 fr, .int .i64 ev, .int .i64 ct, .int .i64 un, .slice D dn dc, .slice M mn mc, .slice Y yn yc] 25)) = W at *
    refine (known_any _).mono ?_
    rintro e u1 ⟨rfl, hb⟩
    replace HBX := hide (andthen HBX.out hb)
    replace HL := hide (HL.out.keep hb)
    replace s0 := cell_keep hb s0
    replace s1 := cell_keep hb s1
    replace s2 := cell_keep hb s2
    replace s3 := cell_keep hb s3
    replace s4 := cell_keep hb s4
    replace s5 := cell_keep hb s5
    replace s6 := cell_keep hb s6
    clear hb
    go_wp2_with fail
    refine (ans_is (few_any fr ev ct un D M Y dn dc mn mc yn yc _) K1.out).mono ?_
    rintro e u2 ⟨rfl, hb⟩
    replace HBX := hide (andthen HBX.out hb)
    replace HL := hide (HL.out.keep hb)
    replace s0 := cell_keep hb s0
    replace s1 := cell_keep hb s1
    replace s2 := cell_keep hb s2
    replace s3 := cell_keep hb s3
    replace s4 := cell_keep hb s4
    replace s5 := cell_keep hb s5
    replace s6 := cell_keep hb s6
    clear hb
    go_wp2_with fail
    refine (ans_is (R.is_any fr ev ct un D M Y dn dc mn mc yn yc ds ms ys _ HL.out) HI.out).mono ?_
    rintro e u3 ⟨rfl, hb⟩
    replace HBX := hide (andthen HBX.out hb)
    replace HL := hide (HL.out.keep hb)
    replace s0 := cell_keep hb s0
    replace s1 := cell_keep hb s1
    replace s2 := cell_keep hb s2
    replace s3 := cell_keep hb s3
    replace s4 := cell_keep hb s4
    replace s5 := cell_keep hb s5
    replace s6 := cell_keep hb s6
    clear hb
    go_wp2_with fail
    go_ret
    exact ⟨rfl, HBX.out⟩
  by_cases h0 : fr = 0
  · have f0 : (fr == 0) = true := by rw [h0]; rfl
    have K1 := hide k1'
    have HI := hide hi
    have HL := hide HB
    have HBX := hide (more (start w) (.cells #[.int .i64 fr, .int .i64 ev, .int .i64 ct, .int .i64 un, .slice D dn dc, .slice M mn mc, .slice Y yn yc] 25))
    have s0 : (w.alloc (.cells #[.int .i64 fr, .int .i64 ev, .int .i64 ct, .int .i64 un, .slice D dn dc, .slice M mn mc, .slice Y yn yc] 25)).cell? ⟨w.heap.size, 0, none⟩ = some (.int .i64 fr) := by rw [World.cell?_alloc_at _ _ _ _ rfl]; rfl
    have s1 : (w.alloc (.cells #[.int .i64 fr, .int .i64 ev, .int .i64 ct, .int .i64 un, .slice D dn dc, .slice M mn mc, .slice Y yn yc] 25)).cell? ⟨w.heap.size, 1, none⟩ = some (.int .i64 ev) := by rw [World.cell?_alloc_at _ _ _ _ rfl]; rfl
    have s2 : (w.alloc (.cells #[.int .i64 fr, .int .i64 ev, .int .i64 ct, .int .i64 un, .slice D dn dc, .slice M mn mc, .slice Y yn yc] 25)).cell? ⟨w.heap.size, 2, none⟩ = some (.int .i64 ct) := by rw [World.cell?_alloc_at _ _ _ _ rfl]; rfl
    have s3 : (w.alloc (.cells #[.int .i64 fr, .int .i64 ev, .int .i64 ct, .int .i64 un, .slice D dn dc, .slice M mn mc, .slice Y yn yc] 25)).cell? ⟨w.heap.size, 3, none⟩ = some (.int .i64 un) := by rw [World.cell?_alloc_at _ _ _ _ rfl]; rfl
    have s4 : (w.alloc (.cells #[.int .i64 fr, .int .i64 ev, .int .i64 ct, .int .i64 un, .slice D dn dc, .slice M mn mc, .slice Y yn yc] 25)).cell? ⟨w.heap.size, 4, none⟩ = some (.slice D dn dc) := by rw [World.cell?_alloc_at _ _ _ _ rfl]; rfl
    have s5 : (w.alloc (.cells #[.int .i64 fr, .int .i64 ev, .int .i64 ct, .int .i64 un, .slice D dn dc, .slice M mn mc, .slice Y yn yc] 25)).cell? ⟨w.heap.size, 5, none⟩ = some (.slice M mn mc) := by rw [World.cell?_alloc_at _ _ _ _ rfl]; rfl
    have s6 : (w.alloc (.cells #[.int .i64 fr, .int .i64 ev, .int .i64 ct, .int .i64 un, .slice D dn dc, .slice M mn mc, .slice Y yn yc] 25)).cell? ⟨w.heap.size, 6, none⟩ = some (.slice Y yn yc) := by rw [World.cell?_alloc_at _ _ _ _ rfl]; rfl
    clear k1' hi HB h0
    go_enter Try.func4, Try.ntmps4
    go_wp2_with fail
    generalize (w.alloc (.cells #[.int .i64 fr, .int .i64 ev, .int .i64 ct, .int .i64 un, .slice D dn dc, .slice M mn mc, .slice Y yn yc] 25)) = W at *
    refine (known_any _).mono ?_
    rintro e u1 ⟨rfl, hb⟩
    replace HBX := hide (andthen HBX.out hb)
    replace HL := hide (HL.out.keep hb)
    replace s0 := cell_keep hb s0
    replace s1 := cell_keep hb s1
    replace s2 := cell_keep hb s2
    replace s3 := cell_keep hb s3
    replace s4 := cell_keep hb s4
    replace s5 := cell_keep hb s5
    replace s6 := cell_keep hb s6
    clear hb
    go_wp2_with fail
    refine (ans_is (few_any fr ev ct un D M Y dn dc mn mc yn yc _) K1.out).mono ?_
    rintro e u2 ⟨rfl, hb⟩
    replace HBX := hide (andthen HBX.out hb)
    replace HL := hide (HL.out.keep hb)
    replace s0 := cell_keep hb s0
    replace s1 := cell_keep hb s1
    replace s2 := cell_keep hb s2
    replace s3 := cell_keep hb s3
    replace s4 := cell_keep hb s4
    replace s5 := cell_keep hb s5
    replace s6 := cell_keep hb s6
    clear hb
    go_wp2_with fail
    refine (ans_is (R.is_any fr ev ct un D M Y dn dc mn mc yn yc ds ms ys _ HL.out) HI.out).mono ?_
    rintro e u3 ⟨rfl, hb⟩
    replace HBX := hide (andthen HBX.out hb)
    replace HL := hide (HL.out.keep hb)
    replace s0 := cell_keep hb s0
    replace s1 := cell_keep hb s1
    replace s2 := cell_keep hb s2
    replace s3 := cell_keep hb s3
    replace s4 := cell_keep hb s4
    replace s5 := cell_keep hb s5
    replace s6 := cell_keep hb s6
    clear hb
    go_wp2_with fail
    go_ret
    exact ⟨rfl, HBX.out⟩
  have f0 : (fr == 0) = false := by rw [beq_eq_false_iff_ne]; exact h0
  have hr : recB ⟨fr, ev, ct, un, ds, ms, ys⟩ = true := by rw [← isB_1 ⟨fr, ev, ct, un, ds, ms, ys⟩ h0]; exact hi
  have s0 : 0 ≤ s ∧ s < 36525 := by omega
  have hz := per_0 ⟨fr, ev, ct, un, ds, ms, ys⟩ s hr s0.1 s0.2
  cases hmo : perK ⟨fr, ev, ct, un, ds, ms, ys⟩ s (k + 1)
  · cases hok : perK ⟨fr, ev, ct, un, ds, ms, ys⟩ s k
    · have ln := daysL_no _ _ _ hok
      by_cases e : ev = 1
      · exact per_ff1 fr ev ct un D M Y dn dc mn mc yn yc ds ms ys x k s _ _ _ _ _ _ _ w x0 x1 k0 k1 hs (hide HB) (hide k1') (hide hi) f0 (hide ⟨rfl, rfl, hok⟩) (hide ⟨rfl, rfl, hmo⟩) (hide ⟨rfl, rfl, hz.1⟩) hz.2 (hide rfl) (hide ⟨fun i h => daysL_in _ _ _ i h, fun i h => daysL_up _ _ _ i h⟩) (by rw [e]; rfl) (by rw [ln]; rfl) (by rw [ln]; rfl)
      · exact per_ff0 fr ev ct un D M Y dn dc mn mc yn yc ds ms ys x k s _ _ _ _ _ _ _ w x0 x1 k0 k1 hs (hide HB) (hide k1') (hide hi) f0 (hide ⟨rfl, rfl, hok⟩) (hide ⟨rfl, rfl, hmo⟩) (hide ⟨rfl, rfl, hz.1⟩) hz.2 (hide rfl) (hide ⟨fun i h => daysL_in _ _ _ i h, fun i h => daysL_up _ _ _ i h⟩) (by rw [beq_eq_false_iff_ne]; exact e) (by rw [ln]; rfl) (by rw [ln]; rfl)
    · by_cases e : ev = 1
      · exact per_ft1 fr ev ct un D M Y dn dc mn mc yn yc ds ms ys x k s _ _ _ _ _ _ _ w x0 x1 k0 k1 hs (hide HB) (hide k1') (hide hi) f0 (hide ⟨rfl, rfl, hok⟩) (hide ⟨rfl, rfl, hmo⟩) (hide ⟨rfl, rfl, hz.1⟩) hz.2 (hide rfl) (hide ⟨fun i h => daysL_in _ _ _ i h, fun i h => daysL_up _ _ _ i h⟩) (by rw [e]; rfl) (by
          rcases Int.lt_or_le (perB ⟨fr, ev, ct, un, ds, ms, ys⟩ s k) 36525 with g | g
          · have := (per_next ⟨fr, ev, ct, un, ds, ms, ys⟩ s k e hok g (by omega)).1
            rw [hmo] at this; cases this
          · exact g)
      · exact per_ft0 fr ev ct un D M Y dn dc mn mc yn yc ds ms ys x k s _ _ _ _ _ _ _ w x0 x1 k0 k1 hs (hide HB) (hide k1') (hide hi) f0 (hide ⟨rfl, rfl, hok⟩) (hide ⟨rfl, rfl, hmo⟩) (hide ⟨rfl, rfl, hz.1⟩) hz.2 (hide rfl) (hide ⟨fun i h => daysL_in _ _ _ i h, fun i h => daysL_up _ _ _ i h⟩) (by rw [beq_eq_false_iff_ne]; exact e)
  · obtain ⟨hok, hcb⟩ := per_more _ _ _ k0 hmo
    by_cases e : ev = 1
    · by_cases g : perB ⟨fr, ev, ct, un, ds, ms, ys⟩ s k < 36525
      · have hn := (per_next ⟨fr, ev, ct, un, ds, ms, ys⟩ s k e hok g (by omega)).2
        exact per_tt1 fr ev ct un D M Y dn dc mn mc yn yc ds ms ys x k s _ _ _ _ _ _ _ w x0 x1 k0 k1 hs (hide HB) (hide k1') (hide hi) f0 (hide ⟨rfl, rfl, hok⟩) (hide ⟨rfl, rfl, hmo⟩) (hide ⟨rfl, rfl, hz.1⟩) hz.2 (hide rfl) (hide ⟨fun i h => daysL_in _ _ _ i h, fun i h => daysL_up _ _ _ i h⟩) (by rw [e]; rfl) (by rw [hn]; simp) hcb g
      · exact per_tt2 fr ev ct un D M Y dn dc mn mc yn yc ds ms ys x k s _ _ _ _ _ _ _ w x0 x1 k0 k1 hs (hide HB) (hide k1') (hide hi) f0 (hide ⟨rfl, rfl, hok⟩) (hide ⟨rfl, rfl, hmo⟩) (hide ⟨rfl, rfl, hz.1⟩) hz.2 (hide rfl) (hide ⟨fun i h => daysL_in _ _ _ i h, fun i h => daysL_up _ _ _ i h⟩) (by rw [e]; rfl) hcb (by omega)
    · exact per_tt0 fr ev ct un D M Y dn dc mn mc yn yc ds ms ys x k s _ _ _ _ _ _ _ w x0 x1 k0 k1 hs (hide HB) (hide k1') (hide hi) f0 (hide ⟨rfl, rfl, hok⟩) (hide ⟨rfl, rfl, hmo⟩) (hide ⟨rfl, rfl, hz.1⟩) hz.2 (hide rfl) (hide ⟨fun i h => daysL_in _ _ _ i h, fun i h => daysL_up _ _ _ i h⟩) (by rw [beq_eq_false_iff_ne]; exact e) hcb

end Go.Proofs.Ytcjkghpcjjbjhaa

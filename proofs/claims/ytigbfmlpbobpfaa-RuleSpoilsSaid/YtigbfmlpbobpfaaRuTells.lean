/- RuleTells walked: of every two rules, every day all that is told of them. -/
import Derived.Test.YtigbfmlpbobpfaaRuV
import Derived.Test.YtigbfmlpbobpfaaRuW
namespace Go.Proofs.Ytigbfmlpbobpfaa
open Go.RowKit Rul Go.Sort

/-- the lists of a rule in memory, however long. -/
abbrev Lays (w : World) (D : Option Addr) (dn : Nat) (M : Option Addr) (mn : Nat) (Y : Option Addr) (yn : Nat) (ds : List Wd) (ms ys : List Int) : Prop :=
  (dn = ds.length ∧ ds.length ≤ maxLen ∧ RowD w D ds) ∧ (mn = ms.length ∧ ms.length ≤ maxLen ∧ RowI w M ms) ∧ (yn = ys.length ∧ ys.length ≤ maxLen ∧ RowI w Y ys)
theorem rows_lies {w : World} {D M Y : Option Addr} {dn mn yn : Nat} {ds : List Wd} {ms ys : List Int} (h : Lays w D dn M mn Y yn ds ms ys) (k : fewB dn mn yn = true) : Lies w D dn M mn Y yn ds ms ys := by
  rw [fewB_iff] at k
  obtain ⟨⟨a1, _, a3⟩, ⟨b1, _, b3⟩, ⟨c1, _, c3⟩⟩ := h
  exact ⟨a3, a1, by omega, b3, b1, by omega, c3, c1, by omega⟩
theorem k_both : sameB ⟨0, 0, 0, -1, [], [], []⟩ ⟨0, 0, 0, -1, [], [], []⟩ = true := by decide +kernel

set_option maxRecDepth 100000 in
set_option maxHeartbeats 1500000 in
theorem tells_any (fr ev ct un : Int) (D M Y : Option Addr) (dn dc mn mc yn yc : Nat) (ds : List Wd) (ms ys : List Int) (fr2 ev2 ct2 un2 : Int) (D2 M2 Y2 : Option Addr) (dn2 dc2 mn2 mc2 yn2 yc2 : Nat) (ds2 : List Wd) (ms2 ys2 : List Int) (day : Int) (w : World) (h : Lays w D dn M mn Y yn ds ms ys) (h2 : Lays w D2 dn2 M2 mn2 Y2 yn2 ds2 ms2 ys2) :
    Calls Try.prog 3 #[.agg #[.int .i64 fr, .int .i64 ev, .int .i64 ct, .int .i64 un, .slice D dn dc, .slice M mn mc, .slice Y yn yc], .agg #[.int .i64 fr2, .int .i64 ev2, .int .i64 ct2, .int .i64 un2, .slice D2 dn2 dc2, .slice M2 mn2 mc2, .slice Y2 yn2 yc2], .int .i64 day] w (Ans w (.bool true)) := by
  have HBX := hide (more (more (start w) (.cells #[.int .i64 fr, .int .i64 ev, .int .i64 ct, .int .i64 un, .slice D dn dc, .slice M mn mc, .slice Y yn yc] 25)) (.cells #[.int .i64 fr2, .int .i64 ev2, .int .i64 ct2, .int .i64 un2, .slice D2 dn2 dc2, .slice M2 mn2 mc2, .slice Y2 yn2 yc2] 25))
  have s0 : ((w.alloc (.cells #[.int .i64 fr, .int .i64 ev, .int .i64 ct, .int .i64 un, .slice D dn dc, .slice M mn mc, .slice Y yn yc] 25)).alloc (.cells #[.int .i64 fr2, .int .i64 ev2, .int .i64 ct2, .int .i64 un2, .slice D2 dn2 dc2, .slice M2 mn2 mc2, .slice Y2 yn2 yc2] 25)).cell? ⟨w.heap.size, 0, none⟩ = some (.int .i64 fr) := by rw [World.cell?_alloc_past _ _ _ (by simp), World.cell?_alloc_at _ _ _ _ rfl]; rfl
  have s1 : ((w.alloc (.cells #[.int .i64 fr, .int .i64 ev, .int .i64 ct, .int .i64 un, .slice D dn dc, .slice M mn mc, .slice Y yn yc] 25)).alloc (.cells #[.int .i64 fr2, .int .i64 ev2, .int .i64 ct2, .int .i64 un2, .slice D2 dn2 dc2, .slice M2 mn2 mc2, .slice Y2 yn2 yc2] 25)).cell? ⟨w.heap.size, 1, none⟩ = some (.int .i64 ev) := by rw [World.cell?_alloc_past _ _ _ (by simp), World.cell?_alloc_at _ _ _ _ rfl]; rfl
  have s2 : ((w.alloc (.cells #[.int .i64 fr, .int .i64 ev, .int .i64 ct, .int .i64 un, .slice D dn dc, .slice M mn mc, .slice Y yn yc] 25)).alloc (.cells #[.int .i64 fr2, .int .i64 ev2, .int .i64 ct2, .int .i64 un2, .slice D2 dn2 dc2, .slice M2 mn2 mc2, .slice Y2 yn2 yc2] 25)).cell? ⟨w.heap.size, 2, none⟩ = some (.int .i64 ct) := by rw [World.cell?_alloc_past _ _ _ (by simp), World.cell?_alloc_at _ _ _ _ rfl]; rfl
  have s3 : ((w.alloc (.cells #[.int .i64 fr, .int .i64 ev, .int .i64 ct, .int .i64 un, .slice D dn dc, .slice M mn mc, .slice Y yn yc] 25)).alloc (.cells #[.int .i64 fr2, .int .i64 ev2, .int .i64 ct2, .int .i64 un2, .slice D2 dn2 dc2, .slice M2 mn2 mc2, .slice Y2 yn2 yc2] 25)).cell? ⟨w.heap.size, 3, none⟩ = some (.int .i64 un) := by rw [World.cell?_alloc_past _ _ _ (by simp), World.cell?_alloc_at _ _ _ _ rfl]; rfl
  have s4 : ((w.alloc (.cells #[.int .i64 fr, .int .i64 ev, .int .i64 ct, .int .i64 un, .slice D dn dc, .slice M mn mc, .slice Y yn yc] 25)).alloc (.cells #[.int .i64 fr2, .int .i64 ev2, .int .i64 ct2, .int .i64 un2, .slice D2 dn2 dc2, .slice M2 mn2 mc2, .slice Y2 yn2 yc2] 25)).cell? ⟨w.heap.size, 4, none⟩ = some (.slice D dn dc) := by rw [World.cell?_alloc_past _ _ _ (by simp), World.cell?_alloc_at _ _ _ _ rfl]; rfl
  have s5 : ((w.alloc (.cells #[.int .i64 fr, .int .i64 ev, .int .i64 ct, .int .i64 un, .slice D dn dc, .slice M mn mc, .slice Y yn yc] 25)).alloc (.cells #[.int .i64 fr2, .int .i64 ev2, .int .i64 ct2, .int .i64 un2, .slice D2 dn2 dc2, .slice M2 mn2 mc2, .slice Y2 yn2 yc2] 25)).cell? ⟨w.heap.size, 5, none⟩ = some (.slice M mn mc) := by rw [World.cell?_alloc_past _ _ _ (by simp), World.cell?_alloc_at _ _ _ _ rfl]; rfl
  have s6 : ((w.alloc (.cells #[.int .i64 fr, .int .i64 ev, .int .i64 ct, .int .i64 un, .slice D dn dc, .slice M mn mc, .slice Y yn yc] 25)).alloc (.cells #[.int .i64 fr2, .int .i64 ev2, .int .i64 ct2, .int .i64 un2, .slice D2 dn2 dc2, .slice M2 mn2 mc2, .slice Y2 yn2 yc2] 25)).cell? ⟨w.heap.size, 6, none⟩ = some (.slice Y yn yc) := by rw [World.cell?_alloc_past _ _ _ (by simp), World.cell?_alloc_at _ _ _ _ rfl]; rfl
  have t0 : ((w.alloc (.cells #[.int .i64 fr, .int .i64 ev, .int .i64 ct, .int .i64 un, .slice D dn dc, .slice M mn mc, .slice Y yn yc] 25)).alloc (.cells #[.int .i64 fr2, .int .i64 ev2, .int .i64 ct2, .int .i64 un2, .slice D2 dn2 dc2, .slice M2 mn2 mc2, .slice Y2 yn2 yc2] 25)).cell? ⟨w.heap.size + 1, 0, none⟩ = some (.int .i64 fr2) := by rw [World.cell?_alloc_at _ _ _ _ (by simp)]; rfl
  have t1 : ((w.alloc (.cells #[.int .i64 fr, .int .i64 ev, .int .i64 ct, .int .i64 un, .slice D dn dc, .slice M mn mc, .slice Y yn yc] 25)).alloc (.cells #[.int .i64 fr2, .int .i64 ev2, .int .i64 ct2, .int .i64 un2, .slice D2 dn2 dc2, .slice M2 mn2 mc2, .slice Y2 yn2 yc2] 25)).cell? ⟨w.heap.size + 1, 1, none⟩ = some (.int .i64 ev2) := by rw [World.cell?_alloc_at _ _ _ _ (by simp)]; rfl
  have t2 : ((w.alloc (.cells #[.int .i64 fr, .int .i64 ev, .int .i64 ct, .int .i64 un, .slice D dn dc, .slice M mn mc, .slice Y yn yc] 25)).alloc (.cells #[.int .i64 fr2, .int .i64 ev2, .int .i64 ct2, .int .i64 un2, .slice D2 dn2 dc2, .slice M2 mn2 mc2, .slice Y2 yn2 yc2] 25)).cell? ⟨w.heap.size + 1, 2, none⟩ = some (.int .i64 ct2) := by rw [World.cell?_alloc_at _ _ _ _ (by simp)]; rfl
  have t3 : ((w.alloc (.cells #[.int .i64 fr, .int .i64 ev, .int .i64 ct, .int .i64 un, .slice D dn dc, .slice M mn mc, .slice Y yn yc] 25)).alloc (.cells #[.int .i64 fr2, .int .i64 ev2, .int .i64 ct2, .int .i64 un2, .slice D2 dn2 dc2, .slice M2 mn2 mc2, .slice Y2 yn2 yc2] 25)).cell? ⟨w.heap.size + 1, 3, none⟩ = some (.int .i64 un2) := by rw [World.cell?_alloc_at _ _ _ _ (by simp)]; rfl
  have t4 : ((w.alloc (.cells #[.int .i64 fr, .int .i64 ev, .int .i64 ct, .int .i64 un, .slice D dn dc, .slice M mn mc, .slice Y yn yc] 25)).alloc (.cells #[.int .i64 fr2, .int .i64 ev2, .int .i64 ct2, .int .i64 un2, .slice D2 dn2 dc2, .slice M2 mn2 mc2, .slice Y2 yn2 yc2] 25)).cell? ⟨w.heap.size + 1, 4, none⟩ = some (.slice D2 dn2 dc2) := by rw [World.cell?_alloc_at _ _ _ _ (by simp)]; rfl
  have t5 : ((w.alloc (.cells #[.int .i64 fr, .int .i64 ev, .int .i64 ct, .int .i64 un, .slice D dn dc, .slice M mn mc, .slice Y yn yc] 25)).alloc (.cells #[.int .i64 fr2, .int .i64 ev2, .int .i64 ct2, .int .i64 un2, .slice D2 dn2 dc2, .slice M2 mn2 mc2, .slice Y2 yn2 yc2] 25)).cell? ⟨w.heap.size + 1, 5, none⟩ = some (.slice M2 mn2 mc2) := by rw [World.cell?_alloc_at _ _ _ _ (by simp)]; rfl
  have t6 : ((w.alloc (.cells #[.int .i64 fr, .int .i64 ev, .int .i64 ct, .int .i64 un, .slice D dn dc, .slice M mn mc, .slice Y yn yc] 25)).alloc (.cells #[.int .i64 fr2, .int .i64 ev2, .int .i64 ct2, .int .i64 un2, .slice D2 dn2 dc2, .slice M2 mn2 mc2, .slice Y2 yn2 yc2] 25)).cell? ⟨w.heap.size + 1, 6, none⟩ = some (.slice Y2 yn2 yc2) := by rw [World.cell?_alloc_at _ _ _ _ (by simp)]; rfl
  cases k1 : fewB dn mn yn
  · have K1 := hide k1
    clear k1 h h2
    go_enter Try.func3, Try.ntmps3
    go_wp2_with fail
    refine (known_any _).mono ?_
    rintro e w1 ⟨rfl, hb1⟩
    replace HBX := hide (andthen HBX.out hb1)
    replace s0 := cell_keep hb1 s0
    replace s1 := cell_keep hb1 s1
    replace s2 := cell_keep hb1 s2
    replace s3 := cell_keep hb1 s3
    replace s4 := cell_keep hb1 s4
    replace s5 := cell_keep hb1 s5
    replace s6 := cell_keep hb1 s6
    replace t0 := cell_keep hb1 t0
    replace t1 := cell_keep hb1 t1
    replace t2 := cell_keep hb1 t2
    replace t3 := cell_keep hb1 t3
    replace t4 := cell_keep hb1 t4
    replace t5 := cell_keep hb1 t5
    replace t6 := cell_keep hb1 t6
    clear hb1
    go_wp2_with fail
    refine (ans_is (few_any fr ev ct un D M Y dn dc mn mc yn yc _) K1.out).mono ?_
    rintro e w1 ⟨rfl, hb1⟩
    replace HBX := hide (andthen HBX.out hb1)
    clear hb1
    go_wp2_with fail
    go_ret
    exact ⟨rfl, HBX.out⟩
  cases k2 : fewB dn2 mn2 yn2
  · have K1 := hide k1
    have K2 := hide k2
    clear k1 k2 h h2
    go_enter Try.func3, Try.ntmps3
    go_wp2_with fail
    refine (known_any _).mono ?_
    rintro e w1 ⟨rfl, hb1⟩
    replace HBX := hide (andthen HBX.out hb1)
    replace s0 := cell_keep hb1 s0
    replace s1 := cell_keep hb1 s1
    replace s2 := cell_keep hb1 s2
    replace s3 := cell_keep hb1 s3
    replace s4 := cell_keep hb1 s4
    replace s5 := cell_keep hb1 s5
    replace s6 := cell_keep hb1 s6
    replace t0 := cell_keep hb1 t0
    replace t1 := cell_keep hb1 t1
    replace t2 := cell_keep hb1 t2
    replace t3 := cell_keep hb1 t3
    replace t4 := cell_keep hb1 t4
    replace t5 := cell_keep hb1 t5
    replace t6 := cell_keep hb1 t6
    clear hb1
    go_wp2_with fail
    refine (ans_is (few_any fr ev ct un D M Y dn dc mn mc yn yc _) K1.out).mono ?_
    rintro e w1 ⟨rfl, hb1⟩
    replace HBX := hide (andthen HBX.out hb1)
    replace s0 := cell_keep hb1 s0
    replace s1 := cell_keep hb1 s1
    replace s2 := cell_keep hb1 s2
    replace s3 := cell_keep hb1 s3
    replace s4 := cell_keep hb1 s4
    replace s5 := cell_keep hb1 s5
    replace s6 := cell_keep hb1 s6
    replace t0 := cell_keep hb1 t0
    replace t1 := cell_keep hb1 t1
    replace t2 := cell_keep hb1 t2
    replace t3 := cell_keep hb1 t3
    replace t4 := cell_keep hb1 t4
    replace t5 := cell_keep hb1 t5
    replace t6 := cell_keep hb1 t6
    clear hb1
    go_wp2_with fail
    refine (ans_is (few_any fr2 ev2 ct2 un2 D2 M2 Y2 dn2 dc2 mn2 mc2 yn2 yc2 _) K2.out).mono ?_
    rintro e w1 ⟨rfl, hb1⟩
    replace HBX := hide (andthen HBX.out hb1)
    clear hb1
    go_wp2_with fail
    go_ret
    exact ⟨rfl, HBX.out⟩
  · have HL := hide ((rows_lies h k1).keep HBX.out)
    have HL2 := hide ((rows_lies h2 k2).keep HBX.out)
    have K1 := hide k1
    have K2 := hide k2
    clear k1 k2 h h2
    obtain ⟨bi, hbi⟩ : ∃ b, isB ⟨fr, ev, ct, un, ds, ms, ys⟩ = b := ⟨_, rfl⟩
    obtain ⟨bs, hbs⟩ : ∃ b, sameB ⟨fr, ev, ct, un, ds, ms, ys⟩ ⟨fr2, ev2, ct2, un2, ds2, ms2, ys2⟩ = b := ⟨_, rfl⟩
    obtain ⟨bf, hbf⟩ : ∃ b, fitsB ⟨fr, ev, ct, un, ds, ms, ys⟩ day = b := ⟨_, rfl⟩
    have HI := hide hbi
    have HS := hide hbs
    have HF := hide hbf
    clear hbi hbs hbf
    have q1 : (bi == bi) = true := beq_self_eq_true bi
    have q2 : (bs == bs) = true := beq_self_eq_true bs
    have q3 : (bf == bf) = true := beq_self_eq_true bf
    go_enter Try.func3, Try.ntmps3
    go_wp2_with fail
    refine (known_any _).mono ?_
    rintro e w1 ⟨rfl, hb1⟩
    replace HBX := hide (andthen HBX.out hb1)
    replace s0 := cell_keep hb1 s0
    replace s1 := cell_keep hb1 s1
    replace s2 := cell_keep hb1 s2
    replace s3 := cell_keep hb1 s3
    replace s4 := cell_keep hb1 s4
    replace s5 := cell_keep hb1 s5
    replace s6 := cell_keep hb1 s6
    replace t0 := cell_keep hb1 t0
    replace t1 := cell_keep hb1 t1
    replace t2 := cell_keep hb1 t2
    replace t3 := cell_keep hb1 t3
    replace t4 := cell_keep hb1 t4
    replace t5 := cell_keep hb1 t5
    replace t6 := cell_keep hb1 t6
    replace HL := hide (HL.out.keep hb1)
    replace HL2 := hide (HL2.out.keep hb1)
    clear hb1
    go_wp2_with fail
    refine (ans_is (few_any fr ev ct un D M Y dn dc mn mc yn yc _) K1.out).mono ?_
    rintro e w1 ⟨rfl, hb1⟩
    replace HBX := hide (andthen HBX.out hb1)
    replace s0 := cell_keep hb1 s0
    replace s1 := cell_keep hb1 s1
    replace s2 := cell_keep hb1 s2
    replace s3 := cell_keep hb1 s3
    replace s4 := cell_keep hb1 s4
    replace s5 := cell_keep hb1 s5
    replace s6 := cell_keep hb1 s6
    replace t0 := cell_keep hb1 t0
    replace t1 := cell_keep hb1 t1
    replace t2 := cell_keep hb1 t2
    replace t3 := cell_keep hb1 t3
    replace t4 := cell_keep hb1 t4
    replace t5 := cell_keep hb1 t5
    replace t6 := cell_keep hb1 t6
    replace HL := hide (HL.out.keep hb1)
    replace HL2 := hide (HL2.out.keep hb1)
    clear hb1
    go_wp2_with fail
    refine (ans_is (few_any fr2 ev2 ct2 un2 D2 M2 Y2 dn2 dc2 mn2 mc2 yn2 yc2 _) K2.out).mono ?_
    rintro e w1 ⟨rfl, hb1⟩
    replace HBX := hide (andthen HBX.out hb1)
    replace s0 := cell_keep hb1 s0
    replace s1 := cell_keep hb1 s1
    replace s2 := cell_keep hb1 s2
    replace s3 := cell_keep hb1 s3
    replace s4 := cell_keep hb1 s4
    replace s5 := cell_keep hb1 s5
    replace s6 := cell_keep hb1 s6
    replace t0 := cell_keep hb1 t0
    replace t1 := cell_keep hb1 t1
    replace t2 := cell_keep hb1 t2
    replace t3 := cell_keep hb1 t3
    replace t4 := cell_keep hb1 t4
    replace t5 := cell_keep hb1 t5
    replace t6 := cell_keep hb1 t6
    replace HL := hide (HL.out.keep hb1)
    replace HL2 := hide (HL2.out.keep hb1)
    clear hb1
    go_wp2_with fail
    have fs0 := fun d os => cell_regrown s0 d os
    have fs1 := fun d os => cell_regrown s1 d os
    have fs2 := fun d os => cell_regrown s2 d os
    have fs3 := fun d os => cell_regrown s3 d os
    have fs4 := fun d os => cell_regrown s4 d os
    have fs5 := fun d os => cell_regrown s5 d os
    have fs6 := fun d os => cell_regrown s6 d os
    have ft0 := fun d os => cell_regrown t0 d os
    have ft1 := fun d os => cell_regrown t1 d os
    have ft2 := fun d os => cell_regrown t2 d os
    have ft3 := fun d os => cell_regrown t3 d os
    have ft4 := fun d os => cell_regrown t4 d os
    have ft5 := fun d os => cell_regrown t5 d os
    have ft6 := fun d os => cell_regrown t6 d os
    have L1 := hide (fun d os => Lies.keep HL.out (below_regrown w1 d os))
    have L2 := hide (fun d os => Lies.keep HL2.out (below_regrown w1 d os))
    clear HL HL2 s0 s1 s2 s3 s4 s5 s6 t0 t1 t2 t3 t4 t5 t6
    refine wp_region_quiet_below (by kernel_rfl) (by kernel_rfl) ?_
    repeat (first | go_big_quiet_step ((first | (go_at_call 11; exact Calls.regrown_of (ans_is (is_any fr ev ct un D M Y dn dc mn mc yn yc ds ms ys _ (L1.out _ _)) HI.out)) | (go_at_call 12; exact Calls.regrown_of (ans_is (R.is_any fr ev ct un D M Y dn dc mn mc yn yc ds ms ys _ (L1.out _ _)) HI.out)) | (go_at_call 13; exact Calls.regrown_of (ans_is (same_any fr ev ct un D M Y dn dc mn mc yn yc fr2 ev2 ct2 un2 D2 M2 Y2 dn2 dc2 mn2 mc2 yn2 yc2 ds ms ys ds2 ms2 ys2 _ (L1.out _ _) (L2.out _ _)) HS.out)) | (go_at_call 14; with_reducible exact Calls.regrown_of (ans_is (R.same_any 0 0 0 (-1) none none none 0 0 0 0 0 0 0 0 0 (-1) none none none 0 0 0 0 0 0 [] [] [] [] [] [] _ (lies_once _) (lies_once _)) k_both)) | (go_at_call 14; exact Calls.regrown_of (ans_is (R.same_any fr ev ct un D M Y dn dc mn mc yn yc fr2 ev2 ct2 un2 D2 M2 Y2 dn2 dc2 mn2 mc2 yn2 yc2 ds ms ys ds2 ms2 ys2 _ (L1.out _ _) (L2.out _ _)) HS.out)) | (go_at_call 15; exact Calls.regrown_of (ans_is (fits_any fr ev ct un D M Y dn dc mn mc yn yc ds ms ys day _ (L1.out _ _)) HF.out)) | (go_at_call 16; exact Calls.regrown_of (ans_is (R.fits_any fr ev ct un D M Y dn dc mn mc yn yc ds ms ys day _ (L1.out _ _)) HF.out)) | (go_at_call 17; exact Calls.regrown_of (once_any _)) | (go_at_call 18; exact Calls.regrown_of (R.once_any _)))) | quiet_step ((first | (go_at_call 11; exact Calls.regrown_of (ans_is (is_any fr ev ct un D M Y dn dc mn mc yn yc ds ms ys _ (L1.out _ _)) HI.out)) | (go_at_call 12; exact Calls.regrown_of (ans_is (R.is_any fr ev ct un D M Y dn dc mn mc yn yc ds ms ys _ (L1.out _ _)) HI.out)) | (go_at_call 13; exact Calls.regrown_of (ans_is (same_any fr ev ct un D M Y dn dc mn mc yn yc fr2 ev2 ct2 un2 D2 M2 Y2 dn2 dc2 mn2 mc2 yn2 yc2 ds ms ys ds2 ms2 ys2 _ (L1.out _ _) (L2.out _ _)) HS.out)) | (go_at_call 14; with_reducible exact Calls.regrown_of (ans_is (R.same_any 0 0 0 (-1) none none none 0 0 0 0 0 0 0 0 0 (-1) none none none 0 0 0 0 0 0 [] [] [] [] [] [] _ (lies_once _) (lies_once _)) k_both)) | (go_at_call 14; exact Calls.regrown_of (ans_is (R.same_any fr ev ct un D M Y dn dc mn mc yn yc fr2 ev2 ct2 un2 D2 M2 Y2 dn2 dc2 mn2 mc2 yn2 yc2 ds ms ys ds2 ms2 ys2 _ (L1.out _ _) (L2.out _ _)) HS.out)) | (go_at_call 15; exact Calls.regrown_of (ans_is (fits_any fr ev ct un D M Y dn dc mn mc yn yc ds ms ys day _ (L1.out _ _)) HF.out)) | (go_at_call 16; exact Calls.regrown_of (ans_is (R.fits_any fr ev ct un D M Y dn dc mn mc yn yc ds ms ys day _ (L1.out _ _)) HF.out)) | (go_at_call 17; exact Calls.regrown_of (once_any _)) | (go_at_call 18; exact Calls.regrown_of (R.once_any _)))))
    refine wpQuiet_nil ?_
    intro _ hw'
    obtain ⟨⟨nq, osq⟩, hw''⟩ := hw'
    subst hw''
    replace HBX := hide (andthen HBX.out (below_regrown w1 nq osq))
    go_wp2_with fail
    go_ret
    exact ⟨rfl, HBX.out⟩

end Go.Proofs.Ytigbfmlpbobpfaa

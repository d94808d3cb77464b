/- Package deed and the document's: numbers of bookings: may it be one, which is before. -/
import Derived.Test.YtocnobgdlgndjaaGreatBRuC
import Derived.Test.YtocnobgdlgndjaaGreatDeMath
import Derived.Deep.RegionHeld3
namespace Go.Proofs.YtocnobgdlgndjaaGreat
open Go.RowKit Rul De Go.Sort

theorem dseq_any (n : Int) (w : World) : Calls Tryz.prog 27 #[.int .i64 n] w (Ans w (.bool (seqB n))) := by
  unfold seqB
  by_cases h : 1 ≤ n
  · have e := hide (show (decide (1 ≤ n) && decide (n ≤ 1000000)) = decide (n ≤ 1000000) by rw [decide_eq_true h, Bool.true_and])
    go_enter Tryz.func27, Tryz.ntmps27
    go_wp2_with fail
    go_ret
    exact ⟨ret_bool e.out.symm, start _⟩
  · have e := hide (show (decide (1 ≤ n) && decide (n ≤ 1000000)) = false by rw [decide_eq_false h, Bool.false_and])
    go_enter Tryz.func27, Tryz.ntmps27
    go_wp2_with fail
    go_ret
    exact ⟨ret_bool e.out.symm, start _⟩
theorem dpeer_any (n : Int) (w : World) : Calls Tryz.prog 26 #[.int .i64 n] w (Ans w (.bool (peB n))) := by
  unfold peB
  by_cases h : 0 ≤ n
  · have e := hide (show (decide (0 ≤ n) && decide (n < 4)) = decide (n < 4) by rw [decide_eq_true h, Bool.true_and])
    go_enter Tryz.func26, Tryz.ntmps26
    go_wp2_with fail
    go_ret
    exact ⟨ret_bool e.out.symm, start _⟩
  · have e := hide (show (decide (0 ≤ n) && decide (n < 4)) = false by rw [decide_eq_false h, Bool.false_and])
    go_enter Tryz.func26, Tryz.ntmps26
    go_wp2_with fail
    go_ret
    exact ⟨ret_bool e.out.symm, start _⟩
theorem rseq_any (n : Int) (w : World) : Calls Tryz.prog 32 #[.int .i64 n] w (Ans w (.bool (seqB n))) := by
  unfold seqB
  by_cases h : 1 ≤ n
  · have e := hide (show (decide (1 ≤ n) && decide (n ≤ 1000000)) = decide (n ≤ 1000000) by rw [decide_eq_true h, Bool.true_and])
    go_enter Tryz.func32, Tryz.ntmps32
    go_wp2_with fail
    go_ret
    exact ⟨ret_bool e.out.symm, start _⟩
  · have e := hide (show (decide (1 ≤ n) && decide (n ≤ 1000000)) = false by rw [decide_eq_false h, Bool.false_and])
    go_enter Tryz.func32, Tryz.ntmps32
    go_wp2_with fail
    go_ret
    exact ⟨ret_bool e.out.symm, start _⟩
theorem rpeer_any (n : Int) (w : World) : Calls Tryz.prog 31 #[.int .i64 n] w (Ans w (.bool (peB n))) := by
  unfold peB
  by_cases h : 0 ≤ n
  · have e := hide (show (decide (0 ≤ n) && decide (n < 4)) = decide (n < 4) by rw [decide_eq_true h, Bool.true_and])
    go_enter Tryz.func31, Tryz.ntmps31
    go_wp2_with fail
    go_ret
    exact ⟨ret_bool e.out.symm, start _⟩
  · have e := hide (show (decide (0 ≤ n) && decide (n < 4)) = false by rw [decide_eq_false h, Bool.false_and])
    go_enter Tryz.func31, Tryz.ntmps31
    go_wp2_with fail
    go_ret
    exact ⟨ret_bool e.out.symm, start _⟩
theorem dseq_at (n : Int) (b : Bool) (w : World) (h : seqB n = b) : Calls Tryz.prog 27 #[.int .i64 n] w (Ans w (.bool b)) := ans_is (dseq_any n w) h
theorem dpeer_at (n : Int) (b : Bool) (w : World) (h : peB n = b) : Calls Tryz.prog 26 #[.int .i64 n] w (Ans w (.bool b)) := ans_is (dpeer_any n w) h
theorem rseq_at (n : Int) (b : Bool) (w : World) (h : seqB n = b) : Calls Tryz.prog 32 #[.int .i64 n] w (Ans w (.bool b)) := ans_is (rseq_any n w) h
theorem rpeer_at (n : Int) (b : Bool) (w : World) (h : peB n = b) : Calls Tryz.prog 31 #[.int .i64 n] w (Ans w (.bool b)) := ans_is (rpeer_any n w) h

theorem did_any (s t : Int) (w : World) : Calls Tryz.prog 14 #[.agg #[.int .i64 s, .int .i64 t]] w (Ans w (.bool (idB (s, t)))) := by
  obtain ⟨p, hp⟩ : ∃ p, seqB s = p := ⟨_, rfl⟩
  have e : idB (s, t) = (p && peB t) := by unfold idB; rw [hp]
  rw [e]
  have HP := hide hp
  clear hp e
  cases p
  · go_enter Tryz.func14, Tryz.ntmps14
    go_wp2_with fail
    refine (dseq_at s false _ HP.out).mono ?_
    rintro e w1 ⟨rfl, hb⟩
    go_wp2_with fail
    go_ret
    exact ⟨rfl, andthen (more (start _) _) hb⟩
  · go_enter Tryz.func14, Tryz.ntmps14
    go_wp2_with fail
    refine (dseq_at s true _ HP.out).mono ?_
    rintro e w1 ⟨rfl, hb⟩
    have c := cell_keep hb (show (w.alloc (.cells #[.int .i64 s, .int .i64 t] 23)).cell? ⟨w.heap.size, 1, none⟩ = some (.int .i64 t) by rw [World.cell?_alloc_at _ _ _ _ rfl]; rfl)
    go_wp2_with fail
    refine (dpeer_any t _).mono ?_
    rintro e w2 ⟨rfl, hc⟩
    go_wp2_with fail
    go_ret
    exact ⟨ret_bool (Bool.true_and _).symm, andthen (andthen (more (start _) _) hb) hc⟩
set_option maxHeartbeats 1600000 in
theorem rid_any (s t : Int) (w : World) : Calls Tryz.prog 15 #[.agg #[.int .i64 s, .int .i64 t]] w (Ans w (.bool (idB (s, t)))) := by
  by_cases h1 : 1 ≤ s
  · by_cases h2 : s ≤ 1000000
    · by_cases h3 : 0 ≤ t
      · have e := hide (show idB (s, t) = decide (t < 4) by unfold idB seqB peB; rw [decide_eq_true h1, decide_eq_true h2, decide_eq_true h3]; rfl)
        go_enter Tryz.func15, Tryz.ntmps15
        go_wp2_with fail
        go_ret
        exact ⟨ret_bool e.out.symm, more (start _) _⟩
      · have e := hide (show idB (s, t) = false by unfold idB seqB peB; rw [decide_eq_true h1, decide_eq_true h2, decide_eq_false h3]; rfl)
        go_enter Tryz.func15, Tryz.ntmps15
        go_wp2_with fail
        go_ret
        exact ⟨ret_bool e.out.symm, more (start _) _⟩
    · have e := hide (show idB (s, t) = false by unfold idB seqB; rw [decide_eq_true h1, decide_eq_false h2]; rfl)
      go_enter Tryz.func15, Tryz.ntmps15
      go_wp2_with fail
      go_ret
      exact ⟨ret_bool e.out.symm, more (start _) _⟩
  · have e := hide (show idB (s, t) = false by unfold idB seqB; rw [decide_eq_false h1]; rfl)
    go_enter Tryz.func15, Tryz.ntmps15
    go_wp2_with fail
    go_ret
    exact ⟨ret_bool e.out.symm, more (start _) _⟩
theorem did_at (i : Nm) (b : Bool) (w : World) (h : idB i = b) : Calls Tryz.prog 14 #[.agg #[.int .i64 i.1, .int .i64 i.2]] w (Ans w (.bool b)) := ans_is (did_any i.1 i.2 w) h
theorem rid_at (i : Nm) (b : Bool) (w : World) (h : idB i = b) : Calls Tryz.prog 15 #[.agg #[.int .i64 i.1, .int .i64 i.2]] w (Ans w (.bool b)) := ans_is (rid_any i.1 i.2 w) h

/-- the first of two numbers that isn't 0. -/
def or2 (a b : Int) : Int := if a ≠ 0 then a else b
set_option maxHeartbeats 1600000 in
theorem cmpOr2_any (a b : Int) (X n : Nat) (w : World) (h0 : w.cell? ⟨X, 0, none⟩ = some (.int .i64 a)) (h1 : w.cell? ⟨X, 1, none⟩ = some (.int .i64 b)) :
    Calls Tryz.prog 34 #[.slice (some ⟨X, 0, none⟩) 2 n] w fun e w' => e = .returned (.int .i64 (or2 a b)) ∧ w = w' := by
  by_cases ha : a = 0
  · by_cases hb : b = 0
    · subst ha hb
      go_enter Tryz.func34, Tryz.ntmps34
      go_wp2_with fail
      refine wp_loop_rounds 3 ?_
      iterate 3
        rw [rounds_succ]
        go_wp2_with fail
      go_ret
      exact ⟨rfl, rfl⟩
    · subst ha
      have q : (b == 0) = false := by rw [beq_eq_false_iff_ne]; exact hb
      have q2 : (b != 0) = true := by rw [bne, q]; rfl
      have HE := hide (show or2 0 b = b by unfold or2; simp)
      go_enter Tryz.func34, Tryz.ntmps34
      go_wp2_with fail
      refine wp_loop_rounds 2 ?_
      iterate 2
        rw [rounds_succ]
        go_wp2_with fail
      go_ret
      exact ⟨ret_int (by rw [HE.out]), rfl⟩
  · have q : (a == 0) = false := by rw [beq_eq_false_iff_ne]; exact ha
    have q2 : (a != 0) = true := by rw [bne, q]; rfl
    have HE := hide (show or2 a b = a by unfold or2; simp [ha])
    go_enter Tryz.func34, Tryz.ntmps34
    go_wp2_with fail
    refine wp_loop_rounds 1 ?_
    rw [rounds_succ]
    go_wp2_with fail
    go_ret
    exact ⟨ret_int (by rw [HE.out]), rfl⟩
theorem or_before (a b : Nm) : decide (or2 (cmpI a.1 b.1) (cmpI a.2 b.2) < 0) = befB a b := by
  unfold or2 cmpI befB
  rw [Bool.eq_iff_iff]
  simp only [Bool.or_eq_true, Bool.and_eq_true, decide_eq_true_eq]
  repeat' split
  all_goals omega
theorem cell_keepA {a b : World} {p : Addr} {v : Value} (h : Below a.heap.size a b) (c : a.cell? p = some v) : b.cell? p = some v := (h.cell (World.block_lt_of_cell? _ _ c)).trans c
theorem keepC4 {W W1 : World} (hb : Below W.heap.size W W1) {a0 a1 a2 a3 : Addr} {v0 v1 v2 v3 : Value} (h : W.cell? a0 = some v0 ∧ W.cell? a1 = some v1 ∧ W.cell? a2 = some v2 ∧ W.cell? a3 = some v3) : W1.cell? a0 = some v0 ∧ W1.cell? a1 = some v1 ∧ W1.cell? a2 = some v2 ∧ W1.cell? a3 = some v3 :=
  ⟨cell_keepA hb h.1, cell_keepA hb h.2.1, cell_keepA hb h.2.2.1, cell_keepA hb h.2.2.2⟩
theorem arr2 (W : World) (a b : Value) (N : Nat) (y : TypeId) (hN : W.heap.size = N) : ((W.alloc (.cells #[a, b] y)).drew).cell? ⟨N, 0, none⟩ = some a ∧ ((W.alloc (.cells #[a, b] y)).drew).cell? ⟨N, 1, none⟩ = some b := by
  subst hN
  have h : ∀ p, ((W.alloc (.cells #[a, b] y)).drew).cell? p = (W.alloc (.cells #[a, b] y)).cell? p := fun _ => rfl
  refine ⟨?_, ?_⟩ <;> rw [h, World.cell?_alloc_at _ _ _ _ rfl] <;> rfl
theorem two4 (w : World) (s t q u : Int) : ∀ W, W = (w.alloc (.cells #[.int .i64 s, .int .i64 t] 23)).alloc (.cells #[.int .i64 q, .int .i64 u] 23) →
    W.cell? ⟨w.heap.size, 0, none⟩ = some (.int .i64 s) ∧ W.cell? ⟨w.heap.size, 1, none⟩ = some (.int .i64 t) ∧ W.cell? ⟨w.heap.size + 1, 0, none⟩ = some (.int .i64 q) ∧ W.cell? ⟨w.heap.size + 1, 1, none⟩ = some (.int .i64 u) := by
  rintro W rfl
  have box2 : ∀ (w : World) (s t : Int), (w.alloc (.cells #[.int .i64 s, .int .i64 t] 23)).cell? ⟨w.heap.size, 0, none⟩ = some (.int .i64 s) ∧ (w.alloc (.cells #[.int .i64 s, .int .i64 t] 23)).cell? ⟨w.heap.size, 1, none⟩ = some (.int .i64 t) := by
    intro w s t; refine ⟨?_, ?_⟩ <;> rw [World.cell?_alloc_at _ _ _ _ rfl] <;> rfl
  have h1 := box2 w s t
  have h2 := box2 (w.alloc (.cells #[.int .i64 s, .int .i64 t] 23)) q u
  rw [World.size_alloc] at h2
  have hb := more (start (w.alloc (.cells #[.int .i64 s, .int .i64 t] 23))) (.cells #[.int .i64 q, .int .i64 u] 23)
  exact ⟨cell_keep hb h1.1, cell_keep hb h1.2, h2⟩
set_option maxRecDepth 100000 in
set_option maxHeartbeats 4000000 in
theorem dbefore_any (s t q u : Int) (w : World) : Calls Tryz.prog 16 #[.agg #[.int .i64 s, .int .i64 t], .agg #[.int .i64 q, .int .i64 u]] w (Ans w (.bool (befB (s, t) (q, u)))) := by
  have HE := hide (or_before (s, t) (q, u))
  have HBX := hide (andthen (more (start w) (.cells #[.int .i64 s, .int .i64 t] 23)) (more (start _) (.cells #[.int .i64 q, .int .i64 u] 23)))
  have HS := hide (two4 w s t q u _ rfl)
  have hsz : ((w.alloc (.cells #[.int .i64 s, .int .i64 t] 23)).alloc (.cells #[.int .i64 q, .int .i64 u] 23)).heap.size = w.heap.size + 1 + 1 := by simp
  go_enter Tryz.func16, Tryz.ntmps16
  go_wp2_with fail
  generalize (w.alloc (.cells #[.int .i64 s, .int .i64 t] 23)).alloc (.cells #[.int .i64 q, .int .i64 u] 23) = W at *
  go_region_held3 (fun w' => w'.cell? ⟨w.heap.size, 0, none⟩ = some (.int .i64 s) ∧ w'.cell? ⟨w.heap.size, 1, none⟩ = some (.int .i64 t) ∧ w'.cell? ⟨w.heap.size + 1, 0, none⟩ = some (.int .i64 q) ∧ w'.cell? ⟨w.heap.size + 1, 1, none⟩ = some (.int .i64 u)) (first | exact keepC4 (start W).drew HS.out | exact keepC4 (more (start W).drew _) HS.out) ((first
    | (go_at_call 35; refine (cmp_any _ _ _).mono ?_; rintro e w2 ⟨rfl, rfl⟩)
    | (go_at_call 34; refine (cmpOr2_any _ _ _ _ _ (arr2 _ _ _ _ _ hsz).1 (arr2 _ _ _ _ _ hsz).2).mono ?_; rintro e w2 ⟨rfl, rfl⟩)))
  go_wp2_with fail
  go_ret
  exact ⟨ret_bool HE.out, andthen HBX.out (by first | exact more (start W).drew _ | exact (start W).drew)⟩
set_option maxHeartbeats 1600000 in
theorem rbefore_any (s t q u : Int) (w : World) : Calls Tryz.prog 17 #[.agg #[.int .i64 s, .int .i64 t], .agg #[.int .i64 q, .int .i64 u]] w (Ans w (.bool (befB (s, t) (q, u)))) := by
  have HBX := hide (andthen (more (start w) (.cells #[.int .i64 s, .int .i64 t] 23)) (more (start _) (.cells #[.int .i64 q, .int .i64 u] 23)))
  by_cases h1 : s < q
  · have e := hide (show befB (s, t) (q, u) = true by unfold befB; rw [decide_eq_true h1]; rfl)
    go_enter Tryz.func17, Tryz.ntmps17
    go_wp2_with fail
    go_ret
    exact ⟨ret_bool e.out.symm, HBX.out⟩
  · by_cases h2 : s = q
    · have e4 : (s == q) = true := by rw [beq_iff_eq]; exact h2
      have e := hide (show befB (s, t) (q, u) = decide (t < u) by unfold befB; rw [decide_eq_false h1, decide_eq_true h2, Bool.false_or, Bool.true_and])
      have H1 := hide h1
      clear h2
      go_enter Tryz.func17, Tryz.ntmps17
      go_wp2_with fail
      go_ret
      exact ⟨ret_bool e.out.symm, HBX.out⟩
    · have e4 : (s == q) = false := by rw [beq_eq_false_iff_ne]; exact h2
      have e := hide (show befB (s, t) (q, u) = false by unfold befB; rw [decide_eq_false h1, decide_eq_false h2]; rfl)
      clear h2
      go_enter Tryz.func17, Tryz.ntmps17
      go_wp2_with fail
      go_ret
      exact ⟨ret_bool e.out.symm, HBX.out⟩
theorem dbefore_at (i j : Nm) (b : Bool) (w : World) (h : befB i j = b) : Calls Tryz.prog 16 #[.agg #[.int .i64 i.1, .int .i64 i.2], .agg #[.int .i64 j.1, .int .i64 j.2]] w (Ans w (.bool b)) := ans_is (dbefore_any i.1 i.2 j.1 j.2 w) h
theorem rbefore_at (i j : Nm) (b : Bool) (w : World) (h : befB i j = b) : Calls Tryz.prog 17 #[.agg #[.int .i64 i.1, .int .i64 i.2], .agg #[.int .i64 j.1, .int .i64 j.2]] w (Ans w (.bool b)) := ans_is (rbefore_any i.1 i.2 j.1 j.2 w) h
end Go.Proofs.YtocnobgdlgndjaaGreat

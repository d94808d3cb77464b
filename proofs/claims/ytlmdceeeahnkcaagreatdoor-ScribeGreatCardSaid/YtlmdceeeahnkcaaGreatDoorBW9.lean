/- EvC; EvD; EvE; EvF of the recipes, what is needed of them. -/
import Derived.Lib.QuietBelow
import Derived.RegionTactic
import Derived.Maps.AppendAt
import Derived.Laws.OwnMore
import Derived.Test.YtlmdceeeahnkcaaGreatDoorBEvA
import Derived.Test.YtlmdceeeahnkcaaGreatDoorBRuF
namespace Go.Proofs.YtlmdceeeahnkcaaGreatDoor
open Go.RowKit Rul Rt Go.Sort

/-- where an event's lists lie. -/
structure Mem where
  O : Option Addr
  oc : Nat
  D : Option Addr
  dc : Nat
  M : Option Addr
  mc : Nat
  Y : Option Addr
  yc : Nat
  X : Option Addr
  xc : Nat
abbrev evV (e : Ev.E) (m : Mem) : Value := .agg #[.string (str e.uid), .string (str e.text), .int .i64 e.st, .int .i64 e.lg, .slice m.O e.rooms.length m.oc, .int .i64 e.r.fr, .int .i64 e.r.ev, .int .i64 e.r.ct, .int .i64 e.r.un, .slice m.D e.r.ds.length m.dc, .slice m.M e.r.ms.length m.mc, .slice m.Y e.r.ys.length m.yc, .slice m.X e.ex.length m.xc]
abbrev paV (e : Ev.E) (m : Mem) : Value := .agg #[.string (str e.uid), .string (str e.text), .int .i64 e.st, .int .i64 e.lg, .int .i64 e.r.fr, .int .i64 e.r.ev, .int .i64 e.r.ct, .int .i64 e.r.un, .slice m.D e.r.ds.length m.dc, .slice m.M e.r.ms.length m.mc, .slice m.Y e.r.ys.length m.yc, .slice m.X e.ex.length m.xc, .slice m.O e.rooms.length m.oc]
/-- an event's lists in memory. -/
structure EvL (w : World) (e : Ev.E) (m : Mem) : Prop where
  o : RowI w m.O e.rooms
  ol : e.rooms.length ≤ 10000
  r : Lies w m.D e.r.ds.length m.M e.r.ms.length m.Y e.r.ys.length e.r.ds e.r.ms e.r.ys
  x : RowI w m.X e.ex
  xl : e.ex.length ≤ 10000
  ul : e.uid.length ≤ 40000
  tl : e.text.length ≤ 40000
theorem EvL.keep {w w' : World} {e : Ev.E} {m : Mem} (h : EvL w e m) (hb : Below w.heap.size w w') : EvL w' e m :=
  ⟨h.o.keep hb, h.ol, h.r.keep hb, h.x.keep hb, h.xl, h.ul, h.tl⟩

end Go.Proofs.YtlmdceeeahnkcaaGreatDoor
namespace Go.Proofs.YtlmdceeeahnkcaaGreatDoor
open Go.RowKit Rul Rt Go.Sort

theorem cell_new (w : World) (vs : Array Value) (t : TypeId) (i : Nat) (v : Value) (h : vs[i]? = some v) : (w.alloc (.cells vs t)).cell? ⟨w.heap.size, i, none⟩ = some v := by rw [World.cell?_alloc_at _ _ _ _ rfl]; exact h
theorem isLong_at (n : Int) (b : Bool) (w : World) (h : Ev.lgB n = b) : Calls Tryz.prog 106 #[.int .i64 n] w (Ans w (.bool b)) := by subst h; exact ans_same (isLong_any n w)
theorem isUID_t (u : Tx) (b : Bool) (w : World) (hs : u.length ≤ 40000) (h : Ev.uidB u = b) : Calls Tryz.prog 103 #[.string (str u)] w (Ans w (.bool b)) := ans_same (isUID_at (str u) b w (by rw [str_size]; omega) (by rw [str_list]; exact h))
theorem isText_t (u : Tx) (b : Bool) (w : World) (hs : u.length ≤ 40000) (h : Ev.textB u = b) : Calls Tryz.prog 104 #[.string (str u)] w (Ans w (.bool b)) := ans_same (isText_at (str u) b w (by rw [str_size]; omega) (by rw [str_list]; exact h))

set_option maxHeartbeats 1000000 in
theorem words_any (u t : Tx) (w : World) (hu : u.length ≤ 40000) (ht : t.length ≤ 40000) :
    Calls Tryz.prog 79 #[.agg #[.string (str u), .string (str t)]] w (Ans w (.bool (Ev.uidB u && Ev.textB t))) := by
  have HBX := hide (more (start w) (.cells #[.string (str u), .string (str t)] 95))
  have s1 := cell_new w #[.string (str u), .string (str t)] 95 1 _ rfl
  cases h1 : Ev.uidB u
  · have H1 := hide (fun w => isUID_t u false w hu h1)
    clear h1 s1
    generalize str u = U at *
    generalize str t = T at *
    go_enter Tryz.func79, Tryz.ntmps79
    go_wp2_with fail
    refine (H1.out _).mono ?_
    rintro e w1 ⟨rfl, hb⟩
    replace HBX := hide (andthen HBX.out hb)
    go_wp2_with fail
    go_ret
    exact ⟨rfl, HBX.out⟩
  · have H1 := hide (fun w => isUID_t u true w hu h1)
    have H2 := hide (fun w => isText_t t _ w ht rfl)
    rw [Bool.true_and]
    generalize Ev.textB t = B at *
    clear h1
    generalize str u = U at *
    generalize str t = T at *
    go_enter Tryz.func79, Tryz.ntmps79
    go_wp2_with fail
    refine (H1.out _).mono ?_
    rintro e w1 ⟨rfl, hb⟩
    replace HBX := hide (andthen HBX.out hb)
    replace s1 := cell_keep hb s1
    clear hb
    go_wp2_with fail
    refine (H2.out _).mono ?_
    rintro e w2 ⟨rfl, hb⟩
    replace HBX := hide (andthen HBX.out hb)
    clear hb
    go_wp2_with fail
    go_ret
    exact ⟨rfl, HBX.out⟩

set_option maxRecDepth 100000 in
set_option maxHeartbeats 4000000 in
theorem times_any (e : Ev.E) (m : Mem) (w : World) (h : EvL w e m) :
    Calls Tryz.prog 80 #[.agg #[.int .i64 e.st, .int .i64 e.lg, .int .i64 e.r.fr, .int .i64 e.r.ev, .int .i64 e.r.ct, .int .i64 e.r.un, .slice m.D e.r.ds.length m.dc, .slice m.M e.r.ms.length m.mc, .slice m.Y e.r.ys.length m.yc, .slice m.X e.ex.length m.xc]] w (Ans w (.bool (Ev.timesB e))) := by
  have h1 : Ev.timesB e = (Ev.minB e.st && (Ev.lgB e.lg && (isB e.r && (Ev.exB e.ex && (decide (e.ex.length = 0) || !sameB e.r once))))) := rfl
  rw [h1]
  clear h1
  have hr := h.r
  have hx := h.x
  have hxl := h.xl
  clear h
  obtain ⟨_, _, s, l, _, ⟨fr, ev, ct, un, ds, ms, ys⟩, x⟩ := e
  obtain ⟨_, _, D, dc, M, mc, Y, yc, X, xc⟩ := m
  simp only at hr hx hxl ⊢
  have HBX := hide (more (start w) (.cells #[.int .i64 s, .int .i64 l, .int .i64 fr, .int .i64 ev, .int .i64 ct, .int .i64 un, .slice D ds.length dc, .slice M ms.length mc, .slice Y ys.length yc, .slice X x.length xc] 97))
  have HR := hide (hr.keep HBX.out)
  have HX := hide (hx.keep HBX.out)
  clear hr hx
  have s0 := cell_new w #[.int .i64 s, .int .i64 l, .int .i64 fr, .int .i64 ev, .int .i64 ct, .int .i64 un, .slice D ds.length dc, .slice M ms.length mc, .slice Y ys.length yc, .slice X x.length xc] 97 0 _ rfl
  have s1 := cell_new w #[.int .i64 s, .int .i64 l, .int .i64 fr, .int .i64 ev, .int .i64 ct, .int .i64 un, .slice D ds.length dc, .slice M ms.length mc, .slice Y ys.length yc, .slice X x.length xc] 97 1 _ rfl
  have s2 := cell_new w #[.int .i64 s, .int .i64 l, .int .i64 fr, .int .i64 ev, .int .i64 ct, .int .i64 un, .slice D ds.length dc, .slice M ms.length mc, .slice Y ys.length yc, .slice X x.length xc] 97 2 _ rfl
  have s3 := cell_new w #[.int .i64 s, .int .i64 l, .int .i64 fr, .int .i64 ev, .int .i64 ct, .int .i64 un, .slice D ds.length dc, .slice M ms.length mc, .slice Y ys.length yc, .slice X x.length xc] 97 3 _ rfl
  have s4 := cell_new w #[.int .i64 s, .int .i64 l, .int .i64 fr, .int .i64 ev, .int .i64 ct, .int .i64 un, .slice D ds.length dc, .slice M ms.length mc, .slice Y ys.length yc, .slice X x.length xc] 97 4 _ rfl
  have s5 := cell_new w #[.int .i64 s, .int .i64 l, .int .i64 fr, .int .i64 ev, .int .i64 ct, .int .i64 un, .slice D ds.length dc, .slice M ms.length mc, .slice Y ys.length yc, .slice X x.length xc] 97 5 _ rfl
  have s6 := cell_new w #[.int .i64 s, .int .i64 l, .int .i64 fr, .int .i64 ev, .int .i64 ct, .int .i64 un, .slice D ds.length dc, .slice M ms.length mc, .slice Y ys.length yc, .slice X x.length xc] 97 6 _ rfl
  have s7 := cell_new w #[.int .i64 s, .int .i64 l, .int .i64 fr, .int .i64 ev, .int .i64 ct, .int .i64 un, .slice D ds.length dc, .slice M ms.length mc, .slice Y ys.length yc, .slice X x.length xc] 97 7 _ rfl
  have s8 := cell_new w #[.int .i64 s, .int .i64 l, .int .i64 fr, .int .i64 ev, .int .i64 ct, .int .i64 un, .slice D ds.length dc, .slice M ms.length mc, .slice Y ys.length yc, .slice X x.length xc] 97 8 _ rfl
  have s9 := cell_new w #[.int .i64 s, .int .i64 l, .int .i64 fr, .int .i64 ev, .int .i64 ct, .int .i64 un, .slice D ds.length dc, .slice M ms.length mc, .slice Y ys.length yc, .slice X x.length xc] 97 9 _ rfl
  cases h1 : Ev.minB s
  · simp only [Bool.false_and]
    have H1 := hide h1
    clear h1
    go_enter Tryz.func80, Tryz.ntmps80
    go_wp2_with fail
    generalize w.alloc (.cells #[.int .i64 s, .int .i64 l, .int .i64 fr, .int .i64 ev, .int .i64 ct, .int .i64 un, .slice D ds.length dc, .slice M ms.length mc, .slice Y ys.length yc, .slice X x.length xc] 97) = W at *
    have f0 := fun d os => cell_regrown s0 d os
    have f1 := fun d os => cell_regrown s1 d os
    have f2 := fun d os => cell_regrown s2 d os
    have f3 := fun d os => cell_regrown s3 d os
    have f4 := fun d os => cell_regrown s4 d os
    have f5 := fun d os => cell_regrown s5 d os
    have f6 := fun d os => cell_regrown s6 d os
    have f7 := fun d os => cell_regrown s7 d os
    have f8 := fun d os => cell_regrown s8 d os
    have f9 := fun d os => cell_regrown s9 d os
    have L1 := hide (fun d os => Lies.keep HR.out (below_regrown W d os))
    have L2 := hide (fun d os => RowI.keep HX.out (below_regrown W d os))
    clear HR HX s0 s1 s2 s3 s4 s5 s6 s7 s8 s9
    refine wp_region_quiet_below (by kernel_rfl) (by kernel_rfl) ?_
    repeat (first | go_big_quiet_step ((first | (go_at_call 105; exact Calls.regrown_of (isMinute_at s false _ H1.out)))) | quiet_step ((first | (go_at_call 105; exact Calls.regrown_of (isMinute_at s false _ H1.out)))))
    refine wpQuiet_nil ?_
    intro _ hw'
    obtain ⟨⟨nq, osq⟩, hw''⟩ := hw'
    subst hw''
    replace HBX := hide (andthen HBX.out (below_regrown W nq osq))
    go_wp2_with fail
    go_ret
    exact ⟨rfl, HBX.out⟩
  · cases h2 : Ev.lgB l
    · simp only [Bool.true_and, Bool.false_and]
      have H1 := hide h1
      have H2 := hide h2
      clear h1 h2
      go_enter Tryz.func80, Tryz.ntmps80
      go_wp2_with fail
      generalize w.alloc (.cells #[.int .i64 s, .int .i64 l, .int .i64 fr, .int .i64 ev, .int .i64 ct, .int .i64 un, .slice D ds.length dc, .slice M ms.length mc, .slice Y ys.length yc, .slice X x.length xc] 97) = W at *
      have f0 := fun d os => cell_regrown s0 d os
      have f1 := fun d os => cell_regrown s1 d os
      have f2 := fun d os => cell_regrown s2 d os
      have f3 := fun d os => cell_regrown s3 d os
      have f4 := fun d os => cell_regrown s4 d os
      have f5 := fun d os => cell_regrown s5 d os
      have f6 := fun d os => cell_regrown s6 d os
      have f7 := fun d os => cell_regrown s7 d os
      have f8 := fun d os => cell_regrown s8 d os
      have f9 := fun d os => cell_regrown s9 d os
      have L1 := hide (fun d os => Lies.keep HR.out (below_regrown W d os))
      have L2 := hide (fun d os => RowI.keep HX.out (below_regrown W d os))
      clear HR HX s0 s1 s2 s3 s4 s5 s6 s7 s8 s9
      refine wp_region_quiet_below (by kernel_rfl) (by kernel_rfl) ?_
      repeat (first | go_big_quiet_step ((first | (go_at_call 105; exact Calls.regrown_of (isMinute_at s true _ H1.out)) | (go_at_call 106; exact Calls.regrown_of (isLong_at l false _ H2.out)))) | quiet_step ((first | (go_at_call 105; exact Calls.regrown_of (isMinute_at s true _ H1.out)) | (go_at_call 106; exact Calls.regrown_of (isLong_at l false _ H2.out)))))
      refine wpQuiet_nil ?_
      intro _ hw'
      obtain ⟨⟨nq, osq⟩, hw''⟩ := hw'
      subst hw''
      replace HBX := hide (andthen HBX.out (below_regrown W nq osq))
      go_wp2_with fail
      go_ret
      exact ⟨rfl, HBX.out⟩
    · cases h3 : isB ⟨fr, ev, ct, un, ds, ms, ys⟩
      · simp only [Bool.true_and, Bool.false_and]
        have H1 := hide h1
        have H2 := hide h2
        have H3 := hide h3
        clear h1 h2 h3
        go_enter Tryz.func80, Tryz.ntmps80
        go_wp2_with fail
        generalize w.alloc (.cells #[.int .i64 s, .int .i64 l, .int .i64 fr, .int .i64 ev, .int .i64 ct, .int .i64 un, .slice D ds.length dc, .slice M ms.length mc, .slice Y ys.length yc, .slice X x.length xc] 97) = W at *
        have f0 := fun d os => cell_regrown s0 d os
        have f1 := fun d os => cell_regrown s1 d os
        have f2 := fun d os => cell_regrown s2 d os
        have f3 := fun d os => cell_regrown s3 d os
        have f4 := fun d os => cell_regrown s4 d os
        have f5 := fun d os => cell_regrown s5 d os
        have f6 := fun d os => cell_regrown s6 d os
        have f7 := fun d os => cell_regrown s7 d os
        have f8 := fun d os => cell_regrown s8 d os
        have f9 := fun d os => cell_regrown s9 d os
        have L1 := hide (fun d os => Lies.keep HR.out (below_regrown W d os))
        have L2 := hide (fun d os => RowI.keep HX.out (below_regrown W d os))
        clear HR HX s0 s1 s2 s3 s4 s5 s6 s7 s8 s9
        refine wp_region_quiet_below (by kernel_rfl) (by kernel_rfl) ?_
        repeat (first | go_big_quiet_step ((first | (go_at_call 105; exact Calls.regrown_of (isMinute_at s true _ H1.out)) | (go_at_call 106; exact Calls.regrown_of (isLong_at l true _ H2.out)) | (go_at_call 107; exact Calls.regrown_of (ans_is (ruleIs_any fr ev ct un D M Y _ dc _ mc _ yc ds ms ys _ (L1.out _ _)) H3.out)))) | quiet_step ((first | (go_at_call 105; exact Calls.regrown_of (isMinute_at s true _ H1.out)) | (go_at_call 106; exact Calls.regrown_of (isLong_at l true _ H2.out)) | (go_at_call 107; exact Calls.regrown_of (ans_is (ruleIs_any fr ev ct un D M Y _ dc _ mc _ yc ds ms ys _ (L1.out _ _)) H3.out)))))
        refine wpQuiet_nil ?_
        intro _ hw'
        obtain ⟨⟨nq, osq⟩, hw''⟩ := hw'
        subst hw''
        replace HBX := hide (andthen HBX.out (below_regrown W nq osq))
        go_wp2_with fail
        go_ret
        exact ⟨rfl, HBX.out⟩
      · cases h4 : Ev.exB x
        · simp only [Bool.true_and, Bool.false_and]
          have H1 := hide h1
          have H2 := hide h2
          have H3 := hide h3
          have H4 := hide h4
          clear h1 h2 h3 h4
          go_enter Tryz.func80, Tryz.ntmps80
          go_wp2_with fail
          generalize w.alloc (.cells #[.int .i64 s, .int .i64 l, .int .i64 fr, .int .i64 ev, .int .i64 ct, .int .i64 un, .slice D ds.length dc, .slice M ms.length mc, .slice Y ys.length yc, .slice X x.length xc] 97) = W at *
          have f0 := fun d os => cell_regrown s0 d os
          have f1 := fun d os => cell_regrown s1 d os
          have f2 := fun d os => cell_regrown s2 d os
          have f3 := fun d os => cell_regrown s3 d os
          have f4 := fun d os => cell_regrown s4 d os
          have f5 := fun d os => cell_regrown s5 d os
          have f6 := fun d os => cell_regrown s6 d os
          have f7 := fun d os => cell_regrown s7 d os
          have f8 := fun d os => cell_regrown s8 d os
          have f9 := fun d os => cell_regrown s9 d os
          have L1 := hide (fun d os => Lies.keep HR.out (below_regrown W d os))
          have L2 := hide (fun d os => RowI.keep HX.out (below_regrown W d os))
          clear HR HX s0 s1 s2 s3 s4 s5 s6 s7 s8 s9
          refine wp_region_quiet_below (by kernel_rfl) (by kernel_rfl) ?_
          repeat (first | go_big_quiet_step ((first | (go_at_call 105; exact Calls.regrown_of (isMinute_at s true _ H1.out)) | (go_at_call 106; exact Calls.regrown_of (isLong_at l true _ H2.out)) | (go_at_call 107; exact Calls.regrown_of (ans_is (ruleIs_any fr ev ct un D M Y _ dc _ mc _ yc ds ms ys _ (L1.out _ _)) H3.out)) | (go_at_call 108; exact Calls.regrown_of (areExcept_at X _ xc x false _ (L2.out _ _) rfl (by omega) H4.out)))) | quiet_step ((first | (go_at_call 105; exact Calls.regrown_of (isMinute_at s true _ H1.out)) | (go_at_call 106; exact Calls.regrown_of (isLong_at l true _ H2.out)) | (go_at_call 107; exact Calls.regrown_of (ans_is (ruleIs_any fr ev ct un D M Y _ dc _ mc _ yc ds ms ys _ (L1.out _ _)) H3.out)) | (go_at_call 108; exact Calls.regrown_of (areExcept_at X _ xc x false _ (L2.out _ _) rfl (by omega) H4.out)))))
          refine wpQuiet_nil ?_
          intro _ hw'
          obtain ⟨⟨nq, osq⟩, hw''⟩ := hw'
          subst hw''
          replace HBX := hide (andthen HBX.out (below_regrown W nq osq))
          go_wp2_with fail
          go_ret
          exact ⟨rfl, HBX.out⟩
        · by_cases h5 : x.length = 0
          · simp only [Bool.true_and, decide_eq_true h5, Bool.true_or]
            have H1 := hide h1
            have H2 := hide h2
            have H3 := hide h3
            have H4 := hide h4
            have q0 : ((x.length : Int) == 0) = true := by rw [beq_iff_eq]; omega
            have q1 : (x.length == 0) = true := by rw [beq_iff_eq]; omega
            clear h1 h2 h3 h4 h5
            go_enter Tryz.func80, Tryz.ntmps80
            go_wp2_with fail
            generalize w.alloc (.cells #[.int .i64 s, .int .i64 l, .int .i64 fr, .int .i64 ev, .int .i64 ct, .int .i64 un, .slice D ds.length dc, .slice M ms.length mc, .slice Y ys.length yc, .slice X x.length xc] 97) = W at *
            have f0 := fun d os => cell_regrown s0 d os
            have f1 := fun d os => cell_regrown s1 d os
            have f2 := fun d os => cell_regrown s2 d os
            have f3 := fun d os => cell_regrown s3 d os
            have f4 := fun d os => cell_regrown s4 d os
            have f5 := fun d os => cell_regrown s5 d os
            have f6 := fun d os => cell_regrown s6 d os
            have f7 := fun d os => cell_regrown s7 d os
            have f8 := fun d os => cell_regrown s8 d os
            have f9 := fun d os => cell_regrown s9 d os
            have L1 := hide (fun d os => Lies.keep HR.out (below_regrown W d os))
            have L2 := hide (fun d os => RowI.keep HX.out (below_regrown W d os))
            clear HR HX s0 s1 s2 s3 s4 s5 s6 s7 s8 s9
            refine wp_region_quiet_below (by kernel_rfl) (by kernel_rfl) ?_
            repeat (first | go_big_quiet_step ((first | (go_at_call 105; exact Calls.regrown_of (isMinute_at s true _ H1.out)) | (go_at_call 106; exact Calls.regrown_of (isLong_at l true _ H2.out)) | (go_at_call 107; exact Calls.regrown_of (ans_is (ruleIs_any fr ev ct un D M Y _ dc _ mc _ yc ds ms ys _ (L1.out _ _)) H3.out)) | (go_at_call 108; exact Calls.regrown_of (areExcept_at X _ xc x true _ (L2.out _ _) rfl (by omega) H4.out)))) | quiet_step ((first | (go_at_call 105; exact Calls.regrown_of (isMinute_at s true _ H1.out)) | (go_at_call 106; exact Calls.regrown_of (isLong_at l true _ H2.out)) | (go_at_call 107; exact Calls.regrown_of (ans_is (ruleIs_any fr ev ct un D M Y _ dc _ mc _ yc ds ms ys _ (L1.out _ _)) H3.out)) | (go_at_call 108; exact Calls.regrown_of (areExcept_at X _ xc x true _ (L2.out _ _) rfl (by omega) H4.out)))))
            refine wpQuiet_nil ?_
            intro _ hw'
            obtain ⟨⟨nq, osq⟩, hw''⟩ := hw'
            subst hw''
            replace HBX := hide (andthen HBX.out (below_regrown W nq osq))
            go_wp2_with fail
            go_ret
            exact ⟨rfl, HBX.out⟩
          · cases h6 : sameB ⟨fr, ev, ct, un, ds, ms, ys⟩ once
            · simp only [Bool.true_and, decide_eq_false h5, Bool.false_or, Bool.not_false]
              have H1 := hide h1
              have H2 := hide h2
              have H3 := hide h3
              have H4 := hide h4
              have q0 : ((x.length : Int) == 0) = false := by rw [beq_eq_false_iff_ne]; omega
              have q1 : (x.length == 0) = false := by rw [beq_eq_false_iff_ne]; omega
              have H6 := hide h6
              clear h1 h2 h3 h4 h5 h6
              go_enter Tryz.func80, Tryz.ntmps80
              go_wp2_with fail
              generalize w.alloc (.cells #[.int .i64 s, .int .i64 l, .int .i64 fr, .int .i64 ev, .int .i64 ct, .int .i64 un, .slice D ds.length dc, .slice M ms.length mc, .slice Y ys.length yc, .slice X x.length xc] 97) = W at *
              have f0 := fun d os => cell_regrown s0 d os
              have f1 := fun d os => cell_regrown s1 d os
              have f2 := fun d os => cell_regrown s2 d os
              have f3 := fun d os => cell_regrown s3 d os
              have f4 := fun d os => cell_regrown s4 d os
              have f5 := fun d os => cell_regrown s5 d os
              have f6 := fun d os => cell_regrown s6 d os
              have f7 := fun d os => cell_regrown s7 d os
              have f8 := fun d os => cell_regrown s8 d os
              have f9 := fun d os => cell_regrown s9 d os
              have L1 := hide (fun d os => Lies.keep HR.out (below_regrown W d os))
              have L2 := hide (fun d os => RowI.keep HX.out (below_regrown W d os))
              clear HR HX s0 s1 s2 s3 s4 s5 s6 s7 s8 s9
              refine wp_region_quiet_below (by kernel_rfl) (by kernel_rfl) ?_
              repeat (first | go_big_quiet_step ((first | (go_at_call 105; exact Calls.regrown_of (isMinute_at s true _ H1.out)) | (go_at_call 106; exact Calls.regrown_of (isLong_at l true _ H2.out)) | (go_at_call 107; exact Calls.regrown_of (ans_is (ruleIs_any fr ev ct un D M Y _ dc _ mc _ yc ds ms ys _ (L1.out _ _)) H3.out)) | (go_at_call 108; exact Calls.regrown_of (areExcept_at X _ xc x true _ (L2.out _ _) rfl (by omega) H4.out)) | (go_at_call 110; exact Calls.regrown_of (once_any _)) | (go_at_call 109; exact Calls.regrown_of (ans_is (same_any fr ev ct un D M Y _ dc _ mc _ yc 0 0 0 (-1) none none none 0 0 0 0 0 0 ds ms ys [] [] [] _ (L1.out _ _) (lies_once _)) H6.out)))) | quiet_step ((first | (go_at_call 105; exact Calls.regrown_of (isMinute_at s true _ H1.out)) | (go_at_call 106; exact Calls.regrown_of (isLong_at l true _ H2.out)) | (go_at_call 107; exact Calls.regrown_of (ans_is (ruleIs_any fr ev ct un D M Y _ dc _ mc _ yc ds ms ys _ (L1.out _ _)) H3.out)) | (go_at_call 108; exact Calls.regrown_of (areExcept_at X _ xc x true _ (L2.out _ _) rfl (by omega) H4.out)) | (go_at_call 110; exact Calls.regrown_of (once_any _)) | (go_at_call 109; exact Calls.regrown_of (ans_is (same_any fr ev ct un D M Y _ dc _ mc _ yc 0 0 0 (-1) none none none 0 0 0 0 0 0 ds ms ys [] [] [] _ (L1.out _ _) (lies_once _)) H6.out)))))
              refine wpQuiet_nil ?_
              intro _ hw'
              obtain ⟨⟨nq, osq⟩, hw''⟩ := hw'
              subst hw''
              replace HBX := hide (andthen HBX.out (below_regrown W nq osq))
              go_wp2_with fail
              go_ret
              exact ⟨rfl, HBX.out⟩
            · simp only [Bool.true_and, decide_eq_false h5, Bool.false_or, Bool.not_true]
              have H1 := hide h1
              have H2 := hide h2
              have H3 := hide h3
              have H4 := hide h4
              have q0 : ((x.length : Int) == 0) = false := by rw [beq_eq_false_iff_ne]; omega
              have q1 : (x.length == 0) = false := by rw [beq_eq_false_iff_ne]; omega
              have H6 := hide h6
              clear h1 h2 h3 h4 h5 h6
              go_enter Tryz.func80, Tryz.ntmps80
              go_wp2_with fail
              generalize w.alloc (.cells #[.int .i64 s, .int .i64 l, .int .i64 fr, .int .i64 ev, .int .i64 ct, .int .i64 un, .slice D ds.length dc, .slice M ms.length mc, .slice Y ys.length yc, .slice X x.length xc] 97) = W at *
              have f0 := fun d os => cell_regrown s0 d os
              have f1 := fun d os => cell_regrown s1 d os
              have f2 := fun d os => cell_regrown s2 d os
              have f3 := fun d os => cell_regrown s3 d os
              have f4 := fun d os => cell_regrown s4 d os
              have f5 := fun d os => cell_regrown s5 d os
              have f6 := fun d os => cell_regrown s6 d os
              have f7 := fun d os => cell_regrown s7 d os
              have f8 := fun d os => cell_regrown s8 d os
              have f9 := fun d os => cell_regrown s9 d os
              have L1 := hide (fun d os => Lies.keep HR.out (below_regrown W d os))
              have L2 := hide (fun d os => RowI.keep HX.out (below_regrown W d os))
              clear HR HX s0 s1 s2 s3 s4 s5 s6 s7 s8 s9
              refine wp_region_quiet_below (by kernel_rfl) (by kernel_rfl) ?_
              repeat (first | go_big_quiet_step ((first | (go_at_call 105; exact Calls.regrown_of (isMinute_at s true _ H1.out)) | (go_at_call 106; exact Calls.regrown_of (isLong_at l true _ H2.out)) | (go_at_call 107; exact Calls.regrown_of (ans_is (ruleIs_any fr ev ct un D M Y _ dc _ mc _ yc ds ms ys _ (L1.out _ _)) H3.out)) | (go_at_call 108; exact Calls.regrown_of (areExcept_at X _ xc x true _ (L2.out _ _) rfl (by omega) H4.out)) | (go_at_call 110; exact Calls.regrown_of (once_any _)) | (go_at_call 109; exact Calls.regrown_of (ans_is (same_any fr ev ct un D M Y _ dc _ mc _ yc 0 0 0 (-1) none none none 0 0 0 0 0 0 ds ms ys [] [] [] _ (L1.out _ _) (lies_once _)) H6.out)))) | quiet_step ((first | (go_at_call 105; exact Calls.regrown_of (isMinute_at s true _ H1.out)) | (go_at_call 106; exact Calls.regrown_of (isLong_at l true _ H2.out)) | (go_at_call 107; exact Calls.regrown_of (ans_is (ruleIs_any fr ev ct un D M Y _ dc _ mc _ yc ds ms ys _ (L1.out _ _)) H3.out)) | (go_at_call 108; exact Calls.regrown_of (areExcept_at X _ xc x true _ (L2.out _ _) rfl (by omega) H4.out)) | (go_at_call 110; exact Calls.regrown_of (once_any _)) | (go_at_call 109; exact Calls.regrown_of (ans_is (same_any fr ev ct un D M Y _ dc _ mc _ yc 0 0 0 (-1) none none none 0 0 0 0 0 0 ds ms ys [] [] [] _ (L1.out _ _) (lies_once _)) H6.out)))))
              refine wpQuiet_nil ?_
              intro _ hw'
              obtain ⟨⟨nq, osq⟩, hw''⟩ := hw'
              subst hw''
              replace HBX := hide (andthen HBX.out (below_regrown W nq osq))
              go_wp2_with fail
              go_ret
              exact ⟨rfl, HBX.out⟩
theorem times_at (e : Ev.E) (m : Mem) (b : Bool) (w : World) (h : EvL w e m) (hb : Ev.timesB e = b) :
    Calls Tryz.prog 80 #[.agg #[.int .i64 e.st, .int .i64 e.lg, .int .i64 e.r.fr, .int .i64 e.r.ev, .int .i64 e.r.ct, .int .i64 e.r.un, .slice m.D e.r.ds.length m.dc, .slice m.M e.r.ms.length m.mc, .slice m.Y e.r.ys.length m.yc, .slice m.X e.ex.length m.xc]] w (Ans w (.bool b)) := by subst hb; exact times_any e m w h
end Go.Proofs.YtlmdceeeahnkcaaGreatDoor
namespace Go.Proofs.YtlmdceeeahnkcaaGreatDoor
open Go.RowKit Rul Rt Go.Sort

theorem words_at (u t : Tx) (b : Bool) (w : World) (hu : u.length ≤ 40000) (ht : t.length ≤ 40000) (h : (Ev.uidB u && Ev.textB t) = b) :
    Calls Tryz.prog 79 #[.agg #[.string (str u), .string (str t)]] w (Ans w (.bool b)) := by subst h; exact words_any u t w hu ht
set_option maxHeartbeats 2000000 in
theorem valid_any (e : Ev.E) (m : Mem) (w : World) (h : EvL w e m) :
    Calls Tryz.prog 56 #[paV e m] w (Ans w (.bool (Ev.isE e))) := by
  have HBX := hide (more (start w) (.cells #[.string (str e.uid), .string (str e.text), .int .i64 e.st, .int .i64 e.lg, .int .i64 e.r.fr, .int .i64 e.r.ev, .int .i64 e.r.ct, .int .i64 e.r.un, .slice m.D e.r.ds.length m.dc, .slice m.M e.r.ms.length m.mc, .slice m.Y e.r.ys.length m.yc, .slice m.X e.ex.length m.xc, .slice m.O e.rooms.length m.oc] 101))
  have H0 : Ev.isE e = (Ev.wordsB e && (Ev.timesB e && Ev.roomsB e.rooms)) := rfl
  rw [H0]
  clear H0
  have HL := hide (h.keep HBX.out)
  have hul := h.ul
  have htl := h.tl
  have hol := h.ol
  have key : ∀ (bw bt : Bool), Ev.wordsB e = bw → Ev.timesB e = bt → Calls Tryz.prog 56 #[paV e m] w (Ans w (.bool (bw && (bt && Ev.roomsB e.rooms)))) := by
    intro bw bt h1 h2
    have C1 := hide (fun w => words_at e.uid e.text bw w hul htl h1)
    have C2 := hide (fun w h => times_at e m bt w h h2)
    have C3 := hide (fun w h => areRooms_any m.O _ m.oc e.rooms w h rfl (by omega))
    clear h1 h2 h
    generalize Ev.roomsB e.rooms = RB at *
    obtain ⟨u, t, s, l, o, ⟨fr, ev, ct, un, ds, ms, ys⟩, x⟩ := e
    obtain ⟨O, oc, D, dc, M, mc, Y, yc, X, xc⟩ := m
    simp only [paV] at HBX HL C1 C2 C3 ⊢
    generalize str u = U at *
    generalize str t = T at *
    have HT := hide (fun w (h : EvL w ⟨u, t, s, l, o, ⟨fr, ev, ct, un, ds, ms, ys⟩, x⟩ ⟨O, oc, D, dc, M, mc, Y, yc, X, xc⟩) => h.o)
    simp only at HT
    have s0 := cell_new w #[.string U, .string T, .int .i64 s, .int .i64 l, .int .i64 fr, .int .i64 ev, .int .i64 ct, .int .i64 un, .slice D ds.length dc, .slice M ms.length mc, .slice Y ys.length yc, .slice X x.length xc, .slice O o.length oc] 101 0 _ rfl
    have s1 := cell_new w #[.string U, .string T, .int .i64 s, .int .i64 l, .int .i64 fr, .int .i64 ev, .int .i64 ct, .int .i64 un, .slice D ds.length dc, .slice M ms.length mc, .slice Y ys.length yc, .slice X x.length xc, .slice O o.length oc] 101 1 _ rfl
    have s2 := cell_new w #[.string U, .string T, .int .i64 s, .int .i64 l, .int .i64 fr, .int .i64 ev, .int .i64 ct, .int .i64 un, .slice D ds.length dc, .slice M ms.length mc, .slice Y ys.length yc, .slice X x.length xc, .slice O o.length oc] 101 2 _ rfl
    have s3 := cell_new w #[.string U, .string T, .int .i64 s, .int .i64 l, .int .i64 fr, .int .i64 ev, .int .i64 ct, .int .i64 un, .slice D ds.length dc, .slice M ms.length mc, .slice Y ys.length yc, .slice X x.length xc, .slice O o.length oc] 101 3 _ rfl
    have s4 := cell_new w #[.string U, .string T, .int .i64 s, .int .i64 l, .int .i64 fr, .int .i64 ev, .int .i64 ct, .int .i64 un, .slice D ds.length dc, .slice M ms.length mc, .slice Y ys.length yc, .slice X x.length xc, .slice O o.length oc] 101 4 _ rfl
    have s5 := cell_new w #[.string U, .string T, .int .i64 s, .int .i64 l, .int .i64 fr, .int .i64 ev, .int .i64 ct, .int .i64 un, .slice D ds.length dc, .slice M ms.length mc, .slice Y ys.length yc, .slice X x.length xc, .slice O o.length oc] 101 5 _ rfl
    have s6 := cell_new w #[.string U, .string T, .int .i64 s, .int .i64 l, .int .i64 fr, .int .i64 ev, .int .i64 ct, .int .i64 un, .slice D ds.length dc, .slice M ms.length mc, .slice Y ys.length yc, .slice X x.length xc, .slice O o.length oc] 101 6 _ rfl
    have s7 := cell_new w #[.string U, .string T, .int .i64 s, .int .i64 l, .int .i64 fr, .int .i64 ev, .int .i64 ct, .int .i64 un, .slice D ds.length dc, .slice M ms.length mc, .slice Y ys.length yc, .slice X x.length xc, .slice O o.length oc] 101 7 _ rfl
    have s8 := cell_new w #[.string U, .string T, .int .i64 s, .int .i64 l, .int .i64 fr, .int .i64 ev, .int .i64 ct, .int .i64 un, .slice D ds.length dc, .slice M ms.length mc, .slice Y ys.length yc, .slice X x.length xc, .slice O o.length oc] 101 8 _ rfl
    have s9 := cell_new w #[.string U, .string T, .int .i64 s, .int .i64 l, .int .i64 fr, .int .i64 ev, .int .i64 ct, .int .i64 un, .slice D ds.length dc, .slice M ms.length mc, .slice Y ys.length yc, .slice X x.length xc, .slice O o.length oc] 101 9 _ rfl
    have s10 := cell_new w #[.string U, .string T, .int .i64 s, .int .i64 l, .int .i64 fr, .int .i64 ev, .int .i64 ct, .int .i64 un, .slice D ds.length dc, .slice M ms.length mc, .slice Y ys.length yc, .slice X x.length xc, .slice O o.length oc] 101 10 _ rfl
    have s11 := cell_new w #[.string U, .string T, .int .i64 s, .int .i64 l, .int .i64 fr, .int .i64 ev, .int .i64 ct, .int .i64 un, .slice D ds.length dc, .slice M ms.length mc, .slice Y ys.length yc, .slice X x.length xc, .slice O o.length oc] 101 11 _ rfl
    have s12 := cell_new w #[.string U, .string T, .int .i64 s, .int .i64 l, .int .i64 fr, .int .i64 ev, .int .i64 ct, .int .i64 un, .slice D ds.length dc, .slice M ms.length mc, .slice Y ys.length yc, .slice X x.length xc, .slice O o.length oc] 101 12 _ rfl
    cases bw
    · clear C2 C3 HT HL s2 s3 s4 s5 s6 s7 s8 s9 s10 s11 s12
      go_enter Tryz.func56, Tryz.ntmps56
      go_wp2_with fail
      refine (C1.out _).mono ?_
      rintro e w1 ⟨rfl, hb⟩
      replace HBX := hide (andthen HBX.out hb)
      clear hb
      go_wp2_with fail
      go_ret
      exact ⟨rfl, HBX.out⟩
    cases bt
    · go_enter Tryz.func56, Tryz.ntmps56
      go_wp2_with fail
      refine (C1.out _).mono ?_
      rintro e w1 ⟨rfl, hb⟩
      replace HBX := hide (andthen HBX.out hb)
      replace HL := hide (HL.out.keep hb)
      replace s2 := cell_keep hb s2
      replace s3 := cell_keep hb s3
      replace s4 := cell_keep hb s4
      replace s5 := cell_keep hb s5
      replace s6 := cell_keep hb s6
      replace s7 := cell_keep hb s7
      replace s8 := cell_keep hb s8
      replace s9 := cell_keep hb s9
      replace s10 := cell_keep hb s10
      replace s11 := cell_keep hb s11
      replace s12 := cell_keep hb s12
      clear hb
      go_wp2_with fail
      refine (C2.out _ HL.out).mono ?_
      rintro e w2 ⟨rfl, hb⟩
      replace HBX := hide (andthen HBX.out hb)
      clear hb
      go_wp2_with fail
      go_ret
      exact ⟨rfl, HBX.out⟩
    · go_enter Tryz.func56, Tryz.ntmps56
      go_wp2_with fail
      refine (C1.out _).mono ?_
      rintro e w1 ⟨rfl, hb⟩
      replace HBX := hide (andthen HBX.out hb)
      replace HL := hide (HL.out.keep hb)
      replace s2 := cell_keep hb s2
      replace s3 := cell_keep hb s3
      replace s4 := cell_keep hb s4
      replace s5 := cell_keep hb s5
      replace s6 := cell_keep hb s6
      replace s7 := cell_keep hb s7
      replace s8 := cell_keep hb s8
      replace s9 := cell_keep hb s9
      replace s10 := cell_keep hb s10
      replace s11 := cell_keep hb s11
      replace s12 := cell_keep hb s12
      clear hb
      go_wp2_with fail
      refine (C2.out _ HL.out).mono ?_
      rintro e w2 ⟨rfl, hb⟩
      replace HBX := hide (andthen HBX.out hb)
      replace HL := hide (HL.out.keep hb)
      replace s12 := cell_keep hb s12
      clear hb
      go_wp2_with fail
      refine (C3.out _ (HT.out _ HL.out)).mono ?_
      rintro e w3 ⟨rfl, hb⟩
      replace HBX := hide (andthen HBX.out hb)
      clear hb
      go_wp2_with fail
      go_ret
      exact ⟨rfl, HBX.out⟩
  exact key _ _ rfl rfl
theorem partsOf_flat (U T : ByteArray) (s l fr ev ct un : Int) (O D M Y X : Option Addr) (on oc dn dc mn mc yn yc xn xc : Nat) (w : World) :
    Calls Tryz.prog 55 #[.agg #[.string U, .string T, .int .i64 s, .int .i64 l, .slice O on oc, .int .i64 fr, .int .i64 ev, .int .i64 ct, .int .i64 un, .slice D dn dc, .slice M mn mc, .slice Y yn yc, .slice X xn xc]] w (Ans w (.agg #[.string U, .string T, .int .i64 s, .int .i64 l, .int .i64 fr, .int .i64 ev, .int .i64 ct, .int .i64 un, .slice D dn dc, .slice M mn mc, .slice Y yn yc, .slice X xn xc, .slice O on oc])) := by
  go_enter Tryz.func55, Tryz.ntmps55
  go_wp2_with fail
  exact bodyPost_ret (v := .agg #[.string U, .string T, .int .i64 s, .int .i64 l, .int .i64 fr, .int .i64 ev, .int .i64 ct, .int .i64 un, .slice D dn dc, .slice M mn mc, .slice Y yn yc, .slice X xn xc, .slice O on oc]) (by simp [results, Tryz.results55, go_sem]) rfl ⟨rfl, more (more (start _) _) _⟩
set_option maxHeartbeats 2000000 in
theorem eIs_any (e : Ev.E) (m : Mem) (w : World) (h : EvL w e m) :
    Calls Tryz.prog 31 #[evV e m] w (Ans w (.bool (Ev.isE e))) := by
  have HBX := hide (more (start w) (.cells #[.string (str e.uid), .string (str e.text), .int .i64 e.st, .int .i64 e.lg, .slice m.O e.rooms.length m.oc, .int .i64 e.r.fr, .int .i64 e.r.ev, .int .i64 e.r.ct, .int .i64 e.r.un, .slice m.D e.r.ds.length m.dc, .slice m.M e.r.ms.length m.mc, .slice m.Y e.r.ys.length m.yc, .slice m.X e.ex.length m.xc] 29))
  have HL := hide (h.keep HBX.out)
  have HV := hide (fun w h => valid_any e m w h)
  clear h
  generalize Ev.isE e = RB at *
  obtain ⟨u, t, s, l, o, ⟨fr, ev, ct, un, ds, ms, ys⟩, x⟩ := e
  obtain ⟨O, oc, D, dc, M, mc, Y, yc, X, xc⟩ := m
  simp only [evV, paV] at HBX HL HV ⊢
  generalize str u = U at *
  generalize str t = T at *
  have s0 := cell_new w #[.string U, .string T, .int .i64 s, .int .i64 l, .slice O o.length oc, .int .i64 fr, .int .i64 ev, .int .i64 ct, .int .i64 un, .slice D ds.length dc, .slice M ms.length mc, .slice Y ys.length yc, .slice X x.length xc] 29 0 _ rfl
  have s1 := cell_new w #[.string U, .string T, .int .i64 s, .int .i64 l, .slice O o.length oc, .int .i64 fr, .int .i64 ev, .int .i64 ct, .int .i64 un, .slice D ds.length dc, .slice M ms.length mc, .slice Y ys.length yc, .slice X x.length xc] 29 1 _ rfl
  have s2 := cell_new w #[.string U, .string T, .int .i64 s, .int .i64 l, .slice O o.length oc, .int .i64 fr, .int .i64 ev, .int .i64 ct, .int .i64 un, .slice D ds.length dc, .slice M ms.length mc, .slice Y ys.length yc, .slice X x.length xc] 29 2 _ rfl
  have s3 := cell_new w #[.string U, .string T, .int .i64 s, .int .i64 l, .slice O o.length oc, .int .i64 fr, .int .i64 ev, .int .i64 ct, .int .i64 un, .slice D ds.length dc, .slice M ms.length mc, .slice Y ys.length yc, .slice X x.length xc] 29 3 _ rfl
  have s4 := cell_new w #[.string U, .string T, .int .i64 s, .int .i64 l, .slice O o.length oc, .int .i64 fr, .int .i64 ev, .int .i64 ct, .int .i64 un, .slice D ds.length dc, .slice M ms.length mc, .slice Y ys.length yc, .slice X x.length xc] 29 4 _ rfl
  have s5 := cell_new w #[.string U, .string T, .int .i64 s, .int .i64 l, .slice O o.length oc, .int .i64 fr, .int .i64 ev, .int .i64 ct, .int .i64 un, .slice D ds.length dc, .slice M ms.length mc, .slice Y ys.length yc, .slice X x.length xc] 29 5 _ rfl
  have s6 := cell_new w #[.string U, .string T, .int .i64 s, .int .i64 l, .slice O o.length oc, .int .i64 fr, .int .i64 ev, .int .i64 ct, .int .i64 un, .slice D ds.length dc, .slice M ms.length mc, .slice Y ys.length yc, .slice X x.length xc] 29 6 _ rfl
  have s7 := cell_new w #[.string U, .string T, .int .i64 s, .int .i64 l, .slice O o.length oc, .int .i64 fr, .int .i64 ev, .int .i64 ct, .int .i64 un, .slice D ds.length dc, .slice M ms.length mc, .slice Y ys.length yc, .slice X x.length xc] 29 7 _ rfl
  have s8 := cell_new w #[.string U, .string T, .int .i64 s, .int .i64 l, .slice O o.length oc, .int .i64 fr, .int .i64 ev, .int .i64 ct, .int .i64 un, .slice D ds.length dc, .slice M ms.length mc, .slice Y ys.length yc, .slice X x.length xc] 29 8 _ rfl
  have s9 := cell_new w #[.string U, .string T, .int .i64 s, .int .i64 l, .slice O o.length oc, .int .i64 fr, .int .i64 ev, .int .i64 ct, .int .i64 un, .slice D ds.length dc, .slice M ms.length mc, .slice Y ys.length yc, .slice X x.length xc] 29 9 _ rfl
  have s10 := cell_new w #[.string U, .string T, .int .i64 s, .int .i64 l, .slice O o.length oc, .int .i64 fr, .int .i64 ev, .int .i64 ct, .int .i64 un, .slice D ds.length dc, .slice M ms.length mc, .slice Y ys.length yc, .slice X x.length xc] 29 10 _ rfl
  have s11 := cell_new w #[.string U, .string T, .int .i64 s, .int .i64 l, .slice O o.length oc, .int .i64 fr, .int .i64 ev, .int .i64 ct, .int .i64 un, .slice D ds.length dc, .slice M ms.length mc, .slice Y ys.length yc, .slice X x.length xc] 29 11 _ rfl
  have s12 := cell_new w #[.string U, .string T, .int .i64 s, .int .i64 l, .slice O o.length oc, .int .i64 fr, .int .i64 ev, .int .i64 ct, .int .i64 un, .slice D ds.length dc, .slice M ms.length mc, .slice Y ys.length yc, .slice X x.length xc] 29 12 _ rfl
  go_enter Tryz.func31, Tryz.ntmps31
  go_wp2_with fail
  refine (partsOf_flat _ _ _ _ _ _ _ _ _ _ _ _ _ _ _ _ _ _ _ _ _ _ _ _).mono ?_
  rintro e w1 ⟨rfl, hb⟩
  replace HBX := hide (andthen HBX.out hb)
  replace HL := hide (HL.out.keep hb)
  clear hb s0 s1 s2 s3 s4 s5 s6 s7 s8 s9 s10 s11 s12
  go_wp2_with fail
  refine (HV.out _ HL.out).mono ?_
  rintro e w2 ⟨rfl, hb⟩
  replace HBX := hide (andthen HBX.out hb)
  clear hb
  go_wp2_with fail
  go_ret
  exact ⟨rfl, HBX.out⟩

end Go.Proofs.YtlmdceeeahnkcaaGreatDoor
namespace Go.Proofs.YtlmdceeeahnkcaaGreatDoor
open Go.RowKit Rul Rt Go.Sort

theorem cell_two (w : World) (vs us : Array Value) (t t2 : TypeId) (i : Nat) (v : Value) (h : vs[i]? = some v) : ((w.alloc (.cells vs t)).alloc (.cells us t2)).cell? ⟨w.heap.size, i, none⟩ = some v := by
  rw [World.cell?_alloc_past _ _ _ (by simp)]; exact cell_new w vs t i v h
theorem cell_two2 (w : World) (vs us : Array Value) (t t2 : TypeId) (i : Nat) (v : Value) (h : us[i]? = some v) : ((w.alloc (.cells vs t)).alloc (.cells us t2)).cell? ⟨w.heap.size + 1, i, none⟩ = some v := by
  have := cell_new (w.alloc (.cells vs t)) us t2 i v h
  rw [World.size_alloc] at this
  exact this
theorem eqI_at (A B : Option Addr) (n m c d : Nat) (l k : List Int) (b : Bool) (w : World) (hl : RowI w A l) (hk : RowI w B k) (hn : n = l.length) (hm : m = k.length) (hsz : l.length ≤ 10000) (hsk : k.length ≤ 10000) (h : decide (l = k) = b) :
    Calls Tryz.prog 145 #[.slice A n c, .slice B m d] w (Ans w (.bool b)) := by
  subst h; exact eqI_any A B n m c d l k w hl hk hn hm (by omega) (by omega)
def tsB (e f : Ev.E) : Bool := (e.st == f.st) && ((e.lg == f.lg) && (sameB e.r f.r && decide (e.ex = f.ex)))
set_option maxRecDepth 100000 in
set_option maxHeartbeats 4000000 in
theorem tsame_any (e f : Ev.E) (m n : Mem) (w : World) (h : EvL w e m) (k : EvL w f n) :
    Calls Tryz.prog 144 #[.agg #[.int .i64 e.st, .int .i64 e.lg, .int .i64 e.r.fr, .int .i64 e.r.ev, .int .i64 e.r.ct, .int .i64 e.r.un, .slice m.D e.r.ds.length m.dc, .slice m.M e.r.ms.length m.mc, .slice m.Y e.r.ys.length m.yc, .slice m.X e.ex.length m.xc], .agg #[.int .i64 f.st, .int .i64 f.lg, .int .i64 f.r.fr, .int .i64 f.r.ev, .int .i64 f.r.ct, .int .i64 f.r.un, .slice n.D f.r.ds.length n.dc, .slice n.M f.r.ms.length n.mc, .slice n.Y f.r.ys.length n.yc, .slice n.X f.ex.length n.xc]] w (Ans w (.bool (tsB e f))) := by
  have h1 : tsB e f = ((e.st == f.st) && ((e.lg == f.lg) && (sameB e.r f.r && decide (e.ex = f.ex)))) := rfl
  rw [h1]
  clear h1
  have hr := h.r
  have hx := h.x
  have hxl := h.xl
  have kr := k.r
  have kx := k.x
  have kxl := k.xl
  clear h k
  obtain ⟨_, _, s, l, _, ⟨fr, ev, ct, un, ds, ms, ys⟩, x⟩ := e
  obtain ⟨_, _, D, dc, M, mc, Y, yc, X, xc⟩ := m
  obtain ⟨_, _, s2, l2, _, ⟨fr2, ev2, ct2, un2, ds2, ms2, ys2⟩, x2⟩ := f
  obtain ⟨_, _, D2, dc2, M2, mc2, Y2, yc2, X2, xc2⟩ := n
  simp only at hr hx hxl kr kx kxl ⊢
  have HBX := hide (more (more (start w) (.cells #[.int .i64 s, .int .i64 l, .int .i64 fr, .int .i64 ev, .int .i64 ct, .int .i64 un, .slice D ds.length dc, .slice M ms.length mc, .slice Y ys.length yc, .slice X x.length xc] 97)) (.cells #[.int .i64 s2, .int .i64 l2, .int .i64 fr2, .int .i64 ev2, .int .i64 ct2, .int .i64 un2, .slice D2 ds2.length dc2, .slice M2 ms2.length mc2, .slice Y2 ys2.length yc2, .slice X2 x2.length xc2] 97))
  have HR := hide (hr.keep HBX.out)
  have HX := hide (hx.keep HBX.out)
  have KR := hide (kr.keep HBX.out)
  have KX := hide (kx.keep HBX.out)
  clear hr hx kr kx
  have a0 : ((w.alloc (.cells #[.int .i64 s, .int .i64 l, .int .i64 fr, .int .i64 ev, .int .i64 ct, .int .i64 un, .slice D ds.length dc, .slice M ms.length mc, .slice Y ys.length yc, .slice X x.length xc] 97)).alloc (.cells #[.int .i64 s2, .int .i64 l2, .int .i64 fr2, .int .i64 ev2, .int .i64 ct2, .int .i64 un2, .slice D2 ds2.length dc2, .slice M2 ms2.length mc2, .slice Y2 ys2.length yc2, .slice X2 x2.length xc2] 97)).cell? ⟨w.heap.size, 0, none⟩ = some (.int .i64 s) := cell_two w _ _ _ _ 0 _ rfl
  have a1 : ((w.alloc (.cells #[.int .i64 s, .int .i64 l, .int .i64 fr, .int .i64 ev, .int .i64 ct, .int .i64 un, .slice D ds.length dc, .slice M ms.length mc, .slice Y ys.length yc, .slice X x.length xc] 97)).alloc (.cells #[.int .i64 s2, .int .i64 l2, .int .i64 fr2, .int .i64 ev2, .int .i64 ct2, .int .i64 un2, .slice D2 ds2.length dc2, .slice M2 ms2.length mc2, .slice Y2 ys2.length yc2, .slice X2 x2.length xc2] 97)).cell? ⟨w.heap.size, 1, none⟩ = some (.int .i64 l) := cell_two w _ _ _ _ 1 _ rfl
  have a2 : ((w.alloc (.cells #[.int .i64 s, .int .i64 l, .int .i64 fr, .int .i64 ev, .int .i64 ct, .int .i64 un, .slice D ds.length dc, .slice M ms.length mc, .slice Y ys.length yc, .slice X x.length xc] 97)).alloc (.cells #[.int .i64 s2, .int .i64 l2, .int .i64 fr2, .int .i64 ev2, .int .i64 ct2, .int .i64 un2, .slice D2 ds2.length dc2, .slice M2 ms2.length mc2, .slice Y2 ys2.length yc2, .slice X2 x2.length xc2] 97)).cell? ⟨w.heap.size, 2, none⟩ = some (.int .i64 fr) := cell_two w _ _ _ _ 2 _ rfl
  have a3 : ((w.alloc (.cells #[.int .i64 s, .int .i64 l, .int .i64 fr, .int .i64 ev, .int .i64 ct, .int .i64 un, .slice D ds.length dc, .slice M ms.length mc, .slice Y ys.length yc, .slice X x.length xc] 97)).alloc (.cells #[.int .i64 s2, .int .i64 l2, .int .i64 fr2, .int .i64 ev2, .int .i64 ct2, .int .i64 un2, .slice D2 ds2.length dc2, .slice M2 ms2.length mc2, .slice Y2 ys2.length yc2, .slice X2 x2.length xc2] 97)).cell? ⟨w.heap.size, 3, none⟩ = some (.int .i64 ev) := cell_two w _ _ _ _ 3 _ rfl
  have a4 : ((w.alloc (.cells #[.int .i64 s, .int .i64 l, .int .i64 fr, .int .i64 ev, .int .i64 ct, .int .i64 un, .slice D ds.length dc, .slice M ms.length mc, .slice Y ys.length yc, .slice X x.length xc] 97)).alloc (.cells #[.int .i64 s2, .int .i64 l2, .int .i64 fr2, .int .i64 ev2, .int .i64 ct2, .int .i64 un2, .slice D2 ds2.length dc2, .slice M2 ms2.length mc2, .slice Y2 ys2.length yc2, .slice X2 x2.length xc2] 97)).cell? ⟨w.heap.size, 4, none⟩ = some (.int .i64 ct) := cell_two w _ _ _ _ 4 _ rfl
  have a5 : ((w.alloc (.cells #[.int .i64 s, .int .i64 l, .int .i64 fr, .int .i64 ev, .int .i64 ct, .int .i64 un, .slice D ds.length dc, .slice M ms.length mc, .slice Y ys.length yc, .slice X x.length xc] 97)).alloc (.cells #[.int .i64 s2, .int .i64 l2, .int .i64 fr2, .int .i64 ev2, .int .i64 ct2, .int .i64 un2, .slice D2 ds2.length dc2, .slice M2 ms2.length mc2, .slice Y2 ys2.length yc2, .slice X2 x2.length xc2] 97)).cell? ⟨w.heap.size, 5, none⟩ = some (.int .i64 un) := cell_two w _ _ _ _ 5 _ rfl
  have a6 : ((w.alloc (.cells #[.int .i64 s, .int .i64 l, .int .i64 fr, .int .i64 ev, .int .i64 ct, .int .i64 un, .slice D ds.length dc, .slice M ms.length mc, .slice Y ys.length yc, .slice X x.length xc] 97)).alloc (.cells #[.int .i64 s2, .int .i64 l2, .int .i64 fr2, .int .i64 ev2, .int .i64 ct2, .int .i64 un2, .slice D2 ds2.length dc2, .slice M2 ms2.length mc2, .slice Y2 ys2.length yc2, .slice X2 x2.length xc2] 97)).cell? ⟨w.heap.size, 6, none⟩ = some (.slice D ds.length dc) := cell_two w _ _ _ _ 6 _ rfl
  have a7 : ((w.alloc (.cells #[.int .i64 s, .int .i64 l, .int .i64 fr, .int .i64 ev, .int .i64 ct, .int .i64 un, .slice D ds.length dc, .slice M ms.length mc, .slice Y ys.length yc, .slice X x.length xc] 97)).alloc (.cells #[.int .i64 s2, .int .i64 l2, .int .i64 fr2, .int .i64 ev2, .int .i64 ct2, .int .i64 un2, .slice D2 ds2.length dc2, .slice M2 ms2.length mc2, .slice Y2 ys2.length yc2, .slice X2 x2.length xc2] 97)).cell? ⟨w.heap.size, 7, none⟩ = some (.slice M ms.length mc) := cell_two w _ _ _ _ 7 _ rfl
  have a8 : ((w.alloc (.cells #[.int .i64 s, .int .i64 l, .int .i64 fr, .int .i64 ev, .int .i64 ct, .int .i64 un, .slice D ds.length dc, .slice M ms.length mc, .slice Y ys.length yc, .slice X x.length xc] 97)).alloc (.cells #[.int .i64 s2, .int .i64 l2, .int .i64 fr2, .int .i64 ev2, .int .i64 ct2, .int .i64 un2, .slice D2 ds2.length dc2, .slice M2 ms2.length mc2, .slice Y2 ys2.length yc2, .slice X2 x2.length xc2] 97)).cell? ⟨w.heap.size, 8, none⟩ = some (.slice Y ys.length yc) := cell_two w _ _ _ _ 8 _ rfl
  have a9 : ((w.alloc (.cells #[.int .i64 s, .int .i64 l, .int .i64 fr, .int .i64 ev, .int .i64 ct, .int .i64 un, .slice D ds.length dc, .slice M ms.length mc, .slice Y ys.length yc, .slice X x.length xc] 97)).alloc (.cells #[.int .i64 s2, .int .i64 l2, .int .i64 fr2, .int .i64 ev2, .int .i64 ct2, .int .i64 un2, .slice D2 ds2.length dc2, .slice M2 ms2.length mc2, .slice Y2 ys2.length yc2, .slice X2 x2.length xc2] 97)).cell? ⟨w.heap.size, 9, none⟩ = some (.slice X x.length xc) := cell_two w _ _ _ _ 9 _ rfl
  have b0 : ((w.alloc (.cells #[.int .i64 s, .int .i64 l, .int .i64 fr, .int .i64 ev, .int .i64 ct, .int .i64 un, .slice D ds.length dc, .slice M ms.length mc, .slice Y ys.length yc, .slice X x.length xc] 97)).alloc (.cells #[.int .i64 s2, .int .i64 l2, .int .i64 fr2, .int .i64 ev2, .int .i64 ct2, .int .i64 un2, .slice D2 ds2.length dc2, .slice M2 ms2.length mc2, .slice Y2 ys2.length yc2, .slice X2 x2.length xc2] 97)).cell? ⟨w.heap.size + 1, 0, none⟩ = some (.int .i64 s2) := cell_two2 w _ _ _ _ 0 _ rfl
  have b1 : ((w.alloc (.cells #[.int .i64 s, .int .i64 l, .int .i64 fr, .int .i64 ev, .int .i64 ct, .int .i64 un, .slice D ds.length dc, .slice M ms.length mc, .slice Y ys.length yc, .slice X x.length xc] 97)).alloc (.cells #[.int .i64 s2, .int .i64 l2, .int .i64 fr2, .int .i64 ev2, .int .i64 ct2, .int .i64 un2, .slice D2 ds2.length dc2, .slice M2 ms2.length mc2, .slice Y2 ys2.length yc2, .slice X2 x2.length xc2] 97)).cell? ⟨w.heap.size + 1, 1, none⟩ = some (.int .i64 l2) := cell_two2 w _ _ _ _ 1 _ rfl
  have b2 : ((w.alloc (.cells #[.int .i64 s, .int .i64 l, .int .i64 fr, .int .i64 ev, .int .i64 ct, .int .i64 un, .slice D ds.length dc, .slice M ms.length mc, .slice Y ys.length yc, .slice X x.length xc] 97)).alloc (.cells #[.int .i64 s2, .int .i64 l2, .int .i64 fr2, .int .i64 ev2, .int .i64 ct2, .int .i64 un2, .slice D2 ds2.length dc2, .slice M2 ms2.length mc2, .slice Y2 ys2.length yc2, .slice X2 x2.length xc2] 97)).cell? ⟨w.heap.size + 1, 2, none⟩ = some (.int .i64 fr2) := cell_two2 w _ _ _ _ 2 _ rfl
  have b3 : ((w.alloc (.cells #[.int .i64 s, .int .i64 l, .int .i64 fr, .int .i64 ev, .int .i64 ct, .int .i64 un, .slice D ds.length dc, .slice M ms.length mc, .slice Y ys.length yc, .slice X x.length xc] 97)).alloc (.cells #[.int .i64 s2, .int .i64 l2, .int .i64 fr2, .int .i64 ev2, .int .i64 ct2, .int .i64 un2, .slice D2 ds2.length dc2, .slice M2 ms2.length mc2, .slice Y2 ys2.length yc2, .slice X2 x2.length xc2] 97)).cell? ⟨w.heap.size + 1, 3, none⟩ = some (.int .i64 ev2) := cell_two2 w _ _ _ _ 3 _ rfl
  have b4 : ((w.alloc (.cells #[.int .i64 s, .int .i64 l, .int .i64 fr, .int .i64 ev, .int .i64 ct, .int .i64 un, .slice D ds.length dc, .slice M ms.length mc, .slice Y ys.length yc, .slice X x.length xc] 97)).alloc (.cells #[.int .i64 s2, .int .i64 l2, .int .i64 fr2, .int .i64 ev2, .int .i64 ct2, .int .i64 un2, .slice D2 ds2.length dc2, .slice M2 ms2.length mc2, .slice Y2 ys2.length yc2, .slice X2 x2.length xc2] 97)).cell? ⟨w.heap.size + 1, 4, none⟩ = some (.int .i64 ct2) := cell_two2 w _ _ _ _ 4 _ rfl
  have b5 : ((w.alloc (.cells #[.int .i64 s, .int .i64 l, .int .i64 fr, .int .i64 ev, .int .i64 ct, .int .i64 un, .slice D ds.length dc, .slice M ms.length mc, .slice Y ys.length yc, .slice X x.length xc] 97)).alloc (.cells #[.int .i64 s2, .int .i64 l2, .int .i64 fr2, .int .i64 ev2, .int .i64 ct2, .int .i64 un2, .slice D2 ds2.length dc2, .slice M2 ms2.length mc2, .slice Y2 ys2.length yc2, .slice X2 x2.length xc2] 97)).cell? ⟨w.heap.size + 1, 5, none⟩ = some (.int .i64 un2) := cell_two2 w _ _ _ _ 5 _ rfl
  have b6 : ((w.alloc (.cells #[.int .i64 s, .int .i64 l, .int .i64 fr, .int .i64 ev, .int .i64 ct, .int .i64 un, .slice D ds.length dc, .slice M ms.length mc, .slice Y ys.length yc, .slice X x.length xc] 97)).alloc (.cells #[.int .i64 s2, .int .i64 l2, .int .i64 fr2, .int .i64 ev2, .int .i64 ct2, .int .i64 un2, .slice D2 ds2.length dc2, .slice M2 ms2.length mc2, .slice Y2 ys2.length yc2, .slice X2 x2.length xc2] 97)).cell? ⟨w.heap.size + 1, 6, none⟩ = some (.slice D2 ds2.length dc2) := cell_two2 w _ _ _ _ 6 _ rfl
  have b7 : ((w.alloc (.cells #[.int .i64 s, .int .i64 l, .int .i64 fr, .int .i64 ev, .int .i64 ct, .int .i64 un, .slice D ds.length dc, .slice M ms.length mc, .slice Y ys.length yc, .slice X x.length xc] 97)).alloc (.cells #[.int .i64 s2, .int .i64 l2, .int .i64 fr2, .int .i64 ev2, .int .i64 ct2, .int .i64 un2, .slice D2 ds2.length dc2, .slice M2 ms2.length mc2, .slice Y2 ys2.length yc2, .slice X2 x2.length xc2] 97)).cell? ⟨w.heap.size + 1, 7, none⟩ = some (.slice M2 ms2.length mc2) := cell_two2 w _ _ _ _ 7 _ rfl
  have b8 : ((w.alloc (.cells #[.int .i64 s, .int .i64 l, .int .i64 fr, .int .i64 ev, .int .i64 ct, .int .i64 un, .slice D ds.length dc, .slice M ms.length mc, .slice Y ys.length yc, .slice X x.length xc] 97)).alloc (.cells #[.int .i64 s2, .int .i64 l2, .int .i64 fr2, .int .i64 ev2, .int .i64 ct2, .int .i64 un2, .slice D2 ds2.length dc2, .slice M2 ms2.length mc2, .slice Y2 ys2.length yc2, .slice X2 x2.length xc2] 97)).cell? ⟨w.heap.size + 1, 8, none⟩ = some (.slice Y2 ys2.length yc2) := cell_two2 w _ _ _ _ 8 _ rfl
  have b9 : ((w.alloc (.cells #[.int .i64 s, .int .i64 l, .int .i64 fr, .int .i64 ev, .int .i64 ct, .int .i64 un, .slice D ds.length dc, .slice M ms.length mc, .slice Y ys.length yc, .slice X x.length xc] 97)).alloc (.cells #[.int .i64 s2, .int .i64 l2, .int .i64 fr2, .int .i64 ev2, .int .i64 ct2, .int .i64 un2, .slice D2 ds2.length dc2, .slice M2 ms2.length mc2, .slice Y2 ys2.length yc2, .slice X2 x2.length xc2] 97)).cell? ⟨w.heap.size + 1, 9, none⟩ = some (.slice X2 x2.length xc2) := cell_two2 w _ _ _ _ 9 _ rfl
  cases h1 : (s == s2)
  · simp only [Bool.false_and]
    go_enter Tryz.func144, Tryz.ntmps144
    go_wp2_with fail
    go_ret
    exact ⟨rfl, HBX.out⟩
  cases h2 : (l == l2)
  · simp only [Bool.true_and, Bool.false_and]
    go_enter Tryz.func144, Tryz.ntmps144
    go_wp2_with fail
    go_ret
    exact ⟨rfl, HBX.out⟩
  cases h3 : sameB ⟨fr, ev, ct, un, ds, ms, ys⟩ ⟨fr2, ev2, ct2, un2, ds2, ms2, ys2⟩
  · simp only [Bool.true_and, Bool.false_and]
    have H3 := hide h3
    clear h3
    go_enter Tryz.func144, Tryz.ntmps144
    go_wp2_with fail
    refine (ans_is (same_any fr ev ct un D M Y _ dc _ mc _ yc fr2 ev2 ct2 un2 D2 M2 Y2 _ dc2 _ mc2 _ yc2 ds ms ys ds2 ms2 ys2 _ HR.out KR.out) H3.out).mono ?_
    rintro e w1 ⟨rfl, hb⟩
    replace HBX := hide (andthen HBX.out hb)
    clear hb
    clear a0 b0 a1 b1 a2 b2 a3 b3 a4 b4 a5 b5 a6 b6 a7 b7 a8 b8 a9 b9
    go_wp2_with fail
    go_ret
    exact ⟨rfl, HBX.out⟩
  · simp only [Bool.true_and]
    have H3 := hide h3
    have H4 := hide (fun w h k => eqI_at X X2 x.length x2.length xc xc2 x x2 _ w h k rfl rfl hxl kxl rfl)
    generalize decide (x = x2) = B at *
    clear h3
    go_enter Tryz.func144, Tryz.ntmps144
    go_wp2_with fail
    refine (ans_is (same_any fr ev ct un D M Y _ dc _ mc _ yc fr2 ev2 ct2 un2 D2 M2 Y2 _ dc2 _ mc2 _ yc2 ds ms ys ds2 ms2 ys2 _ HR.out KR.out) H3.out).mono ?_
    rintro e w1 ⟨rfl, hb⟩
    replace HBX := hide (andthen HBX.out hb)
    replace HX := hide (HX.out.keep hb)
    replace KX := hide (KX.out.keep hb)
    replace a9 := cell_keep hb a9
    replace b9 := cell_keep hb b9
    clear hb
    clear a0 b0 a1 b1 a2 b2 a3 b3 a4 b4 a5 b5 a6 b6 a7 b7 a8 b8
    go_wp2_with fail
    refine (H4.out _ HX.out KX.out).mono ?_
    rintro e w2 ⟨rfl, hb⟩
    replace HBX := hide (andthen HBX.out hb)
    clear hb
    go_wp2_with fail
    go_ret
    exact ⟨rfl, HBX.out⟩

theorem sameE_is (e f : Ev.E) : Ev.sameE e f = ((e.uid == f.uid) && (e.text == f.text) && (tsB e f && decide (e.rooms = f.rooms))) := by
  unfold Ev.sameE tsB
  rw [tx_eq, tx_eq]
  have h1 : (e.st == f.st) = decide (e.st = f.st) := rfl
  have h2 : (e.lg == f.lg) = decide (e.lg = f.lg) := rfl
  rw [h1, h2]
  simp only [Bool.and_assoc]
set_option maxRecDepth 100000 in
set_option maxHeartbeats 4000000 in
theorem psameE_any (e f : Ev.E) (m n : Mem) (w : World) (h : EvL w e m) (k : EvL w f n) :
    Calls Tryz.prog 114 #[paV e m, paV f n] w (Ans w (.bool (Ev.sameE e f))) := by
  have hol := h.ol
  have kol := k.ol
  have key : ∀ (z1 z2 z3 : Bool), (e.uid == f.uid) = z1 → (e.text == f.text) = z2 → tsB e f = z3 → Calls Tryz.prog 114 #[paV e m, paV f n] w (Ans w (.bool ((z1 && z2) && (z3 && decide (e.rooms = f.rooms))))) := by
    intro z1 z2 z3 h1 h2 h3
    have C1 := hide (fun w h k => ans_is (tsame_any e f m n w h k) h3)
    have C2 := hide (fun w h k => eqI_at m.O n.O e.rooms.length f.rooms.length m.oc n.oc e.rooms f.rooms _ w h k rfl rfl hol kol rfl)
    have HBX := hide (more (more (start w) (.cells #[.string (str e.uid), .string (str e.text), .int .i64 e.st, .int .i64 e.lg, .int .i64 e.r.fr, .int .i64 e.r.ev, .int .i64 e.r.ct, .int .i64 e.r.un, .slice m.D e.r.ds.length m.dc, .slice m.M e.r.ms.length m.mc, .slice m.Y e.r.ys.length m.yc, .slice m.X e.ex.length m.xc, .slice m.O e.rooms.length m.oc] 101)) (.cells #[.string (str f.uid), .string (str f.text), .int .i64 f.st, .int .i64 f.lg, .int .i64 f.r.fr, .int .i64 f.r.ev, .int .i64 f.r.ct, .int .i64 f.r.un, .slice n.D f.r.ds.length n.dc, .slice n.M f.r.ms.length n.mc, .slice n.Y f.r.ys.length n.yc, .slice n.X f.ex.length n.xc, .slice n.O f.rooms.length n.oc] 101))
    have HL := hide (h.keep HBX.out)
    have KL := hide (k.keep HBX.out)
    have HO := hide (h.o.keep HBX.out)
    have KO := hide (k.o.keep HBX.out)
    clear h k h3
    generalize decide (e.rooms = f.rooms) = RB at *
    obtain ⟨u, t, s, l, o, ⟨fr, ev, ct, un, ds, ms, ys⟩, x⟩ := e
    obtain ⟨O, oc, D, dc, M, mc, Y, yc, X, xc⟩ := m
    obtain ⟨u2, t2, s2, l2, o2, ⟨fr2, ev2, ct2, un2, ds2, ms2, ys2⟩, x2⟩ := f
    obtain ⟨O2, oc2, D2, dc2, M2, mc2, Y2, yc2, X2, xc2⟩ := n
    simp only [paV] at HBX HL KL HO KO C1 C2 h1 h2 ⊢
    have a0 : ((w.alloc (.cells #[.string (str u), .string (str t), .int .i64 s, .int .i64 l, .int .i64 fr, .int .i64 ev, .int .i64 ct, .int .i64 un, .slice D ds.length dc, .slice M ms.length mc, .slice Y ys.length yc, .slice X x.length xc, .slice O o.length oc] 101)).alloc (.cells #[.string (str u2), .string (str t2), .int .i64 s2, .int .i64 l2, .int .i64 fr2, .int .i64 ev2, .int .i64 ct2, .int .i64 un2, .slice D2 ds2.length dc2, .slice M2 ms2.length mc2, .slice Y2 ys2.length yc2, .slice X2 x2.length xc2, .slice O2 o2.length oc2] 101)).cell? ⟨w.heap.size, 0, none⟩ = some (.string (str u)) := cell_two w _ _ _ _ 0 _ rfl
    have a1 : ((w.alloc (.cells #[.string (str u), .string (str t), .int .i64 s, .int .i64 l, .int .i64 fr, .int .i64 ev, .int .i64 ct, .int .i64 un, .slice D ds.length dc, .slice M ms.length mc, .slice Y ys.length yc, .slice X x.length xc, .slice O o.length oc] 101)).alloc (.cells #[.string (str u2), .string (str t2), .int .i64 s2, .int .i64 l2, .int .i64 fr2, .int .i64 ev2, .int .i64 ct2, .int .i64 un2, .slice D2 ds2.length dc2, .slice M2 ms2.length mc2, .slice Y2 ys2.length yc2, .slice X2 x2.length xc2, .slice O2 o2.length oc2] 101)).cell? ⟨w.heap.size, 1, none⟩ = some (.string (str t)) := cell_two w _ _ _ _ 1 _ rfl
    have a2 : ((w.alloc (.cells #[.string (str u), .string (str t), .int .i64 s, .int .i64 l, .int .i64 fr, .int .i64 ev, .int .i64 ct, .int .i64 un, .slice D ds.length dc, .slice M ms.length mc, .slice Y ys.length yc, .slice X x.length xc, .slice O o.length oc] 101)).alloc (.cells #[.string (str u2), .string (str t2), .int .i64 s2, .int .i64 l2, .int .i64 fr2, .int .i64 ev2, .int .i64 ct2, .int .i64 un2, .slice D2 ds2.length dc2, .slice M2 ms2.length mc2, .slice Y2 ys2.length yc2, .slice X2 x2.length xc2, .slice O2 o2.length oc2] 101)).cell? ⟨w.heap.size, 2, none⟩ = some (.int .i64 s) := cell_two w _ _ _ _ 2 _ rfl
    have a3 : ((w.alloc (.cells #[.string (str u), .string (str t), .int .i64 s, .int .i64 l, .int .i64 fr, .int .i64 ev, .int .i64 ct, .int .i64 un, .slice D ds.length dc, .slice M ms.length mc, .slice Y ys.length yc, .slice X x.length xc, .slice O o.length oc] 101)).alloc (.cells #[.string (str u2), .string (str t2), .int .i64 s2, .int .i64 l2, .int .i64 fr2, .int .i64 ev2, .int .i64 ct2, .int .i64 un2, .slice D2 ds2.length dc2, .slice M2 ms2.length mc2, .slice Y2 ys2.length yc2, .slice X2 x2.length xc2, .slice O2 o2.length oc2] 101)).cell? ⟨w.heap.size, 3, none⟩ = some (.int .i64 l) := cell_two w _ _ _ _ 3 _ rfl
    have a4 : ((w.alloc (.cells #[.string (str u), .string (str t), .int .i64 s, .int .i64 l, .int .i64 fr, .int .i64 ev, .int .i64 ct, .int .i64 un, .slice D ds.length dc, .slice M ms.length mc, .slice Y ys.length yc, .slice X x.length xc, .slice O o.length oc] 101)).alloc (.cells #[.string (str u2), .string (str t2), .int .i64 s2, .int .i64 l2, .int .i64 fr2, .int .i64 ev2, .int .i64 ct2, .int .i64 un2, .slice D2 ds2.length dc2, .slice M2 ms2.length mc2, .slice Y2 ys2.length yc2, .slice X2 x2.length xc2, .slice O2 o2.length oc2] 101)).cell? ⟨w.heap.size, 4, none⟩ = some (.int .i64 fr) := cell_two w _ _ _ _ 4 _ rfl
    have a5 : ((w.alloc (.cells #[.string (str u), .string (str t), .int .i64 s, .int .i64 l, .int .i64 fr, .int .i64 ev, .int .i64 ct, .int .i64 un, .slice D ds.length dc, .slice M ms.length mc, .slice Y ys.length yc, .slice X x.length xc, .slice O o.length oc] 101)).alloc (.cells #[.string (str u2), .string (str t2), .int .i64 s2, .int .i64 l2, .int .i64 fr2, .int .i64 ev2, .int .i64 ct2, .int .i64 un2, .slice D2 ds2.length dc2, .slice M2 ms2.length mc2, .slice Y2 ys2.length yc2, .slice X2 x2.length xc2, .slice O2 o2.length oc2] 101)).cell? ⟨w.heap.size, 5, none⟩ = some (.int .i64 ev) := cell_two w _ _ _ _ 5 _ rfl
    have a6 : ((w.alloc (.cells #[.string (str u), .string (str t), .int .i64 s, .int .i64 l, .int .i64 fr, .int .i64 ev, .int .i64 ct, .int .i64 un, .slice D ds.length dc, .slice M ms.length mc, .slice Y ys.length yc, .slice X x.length xc, .slice O o.length oc] 101)).alloc (.cells #[.string (str u2), .string (str t2), .int .i64 s2, .int .i64 l2, .int .i64 fr2, .int .i64 ev2, .int .i64 ct2, .int .i64 un2, .slice D2 ds2.length dc2, .slice M2 ms2.length mc2, .slice Y2 ys2.length yc2, .slice X2 x2.length xc2, .slice O2 o2.length oc2] 101)).cell? ⟨w.heap.size, 6, none⟩ = some (.int .i64 ct) := cell_two w _ _ _ _ 6 _ rfl
    have a7 : ((w.alloc (.cells #[.string (str u), .string (str t), .int .i64 s, .int .i64 l, .int .i64 fr, .int .i64 ev, .int .i64 ct, .int .i64 un, .slice D ds.length dc, .slice M ms.length mc, .slice Y ys.length yc, .slice X x.length xc, .slice O o.length oc] 101)).alloc (.cells #[.string (str u2), .string (str t2), .int .i64 s2, .int .i64 l2, .int .i64 fr2, .int .i64 ev2, .int .i64 ct2, .int .i64 un2, .slice D2 ds2.length dc2, .slice M2 ms2.length mc2, .slice Y2 ys2.length yc2, .slice X2 x2.length xc2, .slice O2 o2.length oc2] 101)).cell? ⟨w.heap.size, 7, none⟩ = some (.int .i64 un) := cell_two w _ _ _ _ 7 _ rfl
    have a8 : ((w.alloc (.cells #[.string (str u), .string (str t), .int .i64 s, .int .i64 l, .int .i64 fr, .int .i64 ev, .int .i64 ct, .int .i64 un, .slice D ds.length dc, .slice M ms.length mc, .slice Y ys.length yc, .slice X x.length xc, .slice O o.length oc] 101)).alloc (.cells #[.string (str u2), .string (str t2), .int .i64 s2, .int .i64 l2, .int .i64 fr2, .int .i64 ev2, .int .i64 ct2, .int .i64 un2, .slice D2 ds2.length dc2, .slice M2 ms2.length mc2, .slice Y2 ys2.length yc2, .slice X2 x2.length xc2, .slice O2 o2.length oc2] 101)).cell? ⟨w.heap.size, 8, none⟩ = some (.slice D ds.length dc) := cell_two w _ _ _ _ 8 _ rfl
    have a9 : ((w.alloc (.cells #[.string (str u), .string (str t), .int .i64 s, .int .i64 l, .int .i64 fr, .int .i64 ev, .int .i64 ct, .int .i64 un, .slice D ds.length dc, .slice M ms.length mc, .slice Y ys.length yc, .slice X x.length xc, .slice O o.length oc] 101)).alloc (.cells #[.string (str u2), .string (str t2), .int .i64 s2, .int .i64 l2, .int .i64 fr2, .int .i64 ev2, .int .i64 ct2, .int .i64 un2, .slice D2 ds2.length dc2, .slice M2 ms2.length mc2, .slice Y2 ys2.length yc2, .slice X2 x2.length xc2, .slice O2 o2.length oc2] 101)).cell? ⟨w.heap.size, 9, none⟩ = some (.slice M ms.length mc) := cell_two w _ _ _ _ 9 _ rfl
    have a10 : ((w.alloc (.cells #[.string (str u), .string (str t), .int .i64 s, .int .i64 l, .int .i64 fr, .int .i64 ev, .int .i64 ct, .int .i64 un, .slice D ds.length dc, .slice M ms.length mc, .slice Y ys.length yc, .slice X x.length xc, .slice O o.length oc] 101)).alloc (.cells #[.string (str u2), .string (str t2), .int .i64 s2, .int .i64 l2, .int .i64 fr2, .int .i64 ev2, .int .i64 ct2, .int .i64 un2, .slice D2 ds2.length dc2, .slice M2 ms2.length mc2, .slice Y2 ys2.length yc2, .slice X2 x2.length xc2, .slice O2 o2.length oc2] 101)).cell? ⟨w.heap.size, 10, none⟩ = some (.slice Y ys.length yc) := cell_two w _ _ _ _ 10 _ rfl
    have a11 : ((w.alloc (.cells #[.string (str u), .string (str t), .int .i64 s, .int .i64 l, .int .i64 fr, .int .i64 ev, .int .i64 ct, .int .i64 un, .slice D ds.length dc, .slice M ms.length mc, .slice Y ys.length yc, .slice X x.length xc, .slice O o.length oc] 101)).alloc (.cells #[.string (str u2), .string (str t2), .int .i64 s2, .int .i64 l2, .int .i64 fr2, .int .i64 ev2, .int .i64 ct2, .int .i64 un2, .slice D2 ds2.length dc2, .slice M2 ms2.length mc2, .slice Y2 ys2.length yc2, .slice X2 x2.length xc2, .slice O2 o2.length oc2] 101)).cell? ⟨w.heap.size, 11, none⟩ = some (.slice X x.length xc) := cell_two w _ _ _ _ 11 _ rfl
    have a12 : ((w.alloc (.cells #[.string (str u), .string (str t), .int .i64 s, .int .i64 l, .int .i64 fr, .int .i64 ev, .int .i64 ct, .int .i64 un, .slice D ds.length dc, .slice M ms.length mc, .slice Y ys.length yc, .slice X x.length xc, .slice O o.length oc] 101)).alloc (.cells #[.string (str u2), .string (str t2), .int .i64 s2, .int .i64 l2, .int .i64 fr2, .int .i64 ev2, .int .i64 ct2, .int .i64 un2, .slice D2 ds2.length dc2, .slice M2 ms2.length mc2, .slice Y2 ys2.length yc2, .slice X2 x2.length xc2, .slice O2 o2.length oc2] 101)).cell? ⟨w.heap.size, 12, none⟩ = some (.slice O o.length oc) := cell_two w _ _ _ _ 12 _ rfl
    have b0 : ((w.alloc (.cells #[.string (str u), .string (str t), .int .i64 s, .int .i64 l, .int .i64 fr, .int .i64 ev, .int .i64 ct, .int .i64 un, .slice D ds.length dc, .slice M ms.length mc, .slice Y ys.length yc, .slice X x.length xc, .slice O o.length oc] 101)).alloc (.cells #[.string (str u2), .string (str t2), .int .i64 s2, .int .i64 l2, .int .i64 fr2, .int .i64 ev2, .int .i64 ct2, .int .i64 un2, .slice D2 ds2.length dc2, .slice M2 ms2.length mc2, .slice Y2 ys2.length yc2, .slice X2 x2.length xc2, .slice O2 o2.length oc2] 101)).cell? ⟨w.heap.size + 1, 0, none⟩ = some (.string (str u2)) := cell_two2 w _ _ _ _ 0 _ rfl
    have b1 : ((w.alloc (.cells #[.string (str u), .string (str t), .int .i64 s, .int .i64 l, .int .i64 fr, .int .i64 ev, .int .i64 ct, .int .i64 un, .slice D ds.length dc, .slice M ms.length mc, .slice Y ys.length yc, .slice X x.length xc, .slice O o.length oc] 101)).alloc (.cells #[.string (str u2), .string (str t2), .int .i64 s2, .int .i64 l2, .int .i64 fr2, .int .i64 ev2, .int .i64 ct2, .int .i64 un2, .slice D2 ds2.length dc2, .slice M2 ms2.length mc2, .slice Y2 ys2.length yc2, .slice X2 x2.length xc2, .slice O2 o2.length oc2] 101)).cell? ⟨w.heap.size + 1, 1, none⟩ = some (.string (str t2)) := cell_two2 w _ _ _ _ 1 _ rfl
    have b2 : ((w.alloc (.cells #[.string (str u), .string (str t), .int .i64 s, .int .i64 l, .int .i64 fr, .int .i64 ev, .int .i64 ct, .int .i64 un, .slice D ds.length dc, .slice M ms.length mc, .slice Y ys.length yc, .slice X x.length xc, .slice O o.length oc] 101)).alloc (.cells #[.string (str u2), .string (str t2), .int .i64 s2, .int .i64 l2, .int .i64 fr2, .int .i64 ev2, .int .i64 ct2, .int .i64 un2, .slice D2 ds2.length dc2, .slice M2 ms2.length mc2, .slice Y2 ys2.length yc2, .slice X2 x2.length xc2, .slice O2 o2.length oc2] 101)).cell? ⟨w.heap.size + 1, 2, none⟩ = some (.int .i64 s2) := cell_two2 w _ _ _ _ 2 _ rfl
    have b3 : ((w.alloc (.cells #[.string (str u), .string (str t), .int .i64 s, .int .i64 l, .int .i64 fr, .int .i64 ev, .int .i64 ct, .int .i64 un, .slice D ds.length dc, .slice M ms.length mc, .slice Y ys.length yc, .slice X x.length xc, .slice O o.length oc] 101)).alloc (.cells #[.string (str u2), .string (str t2), .int .i64 s2, .int .i64 l2, .int .i64 fr2, .int .i64 ev2, .int .i64 ct2, .int .i64 un2, .slice D2 ds2.length dc2, .slice M2 ms2.length mc2, .slice Y2 ys2.length yc2, .slice X2 x2.length xc2, .slice O2 o2.length oc2] 101)).cell? ⟨w.heap.size + 1, 3, none⟩ = some (.int .i64 l2) := cell_two2 w _ _ _ _ 3 _ rfl
    have b4 : ((w.alloc (.cells #[.string (str u), .string (str t), .int .i64 s, .int .i64 l, .int .i64 fr, .int .i64 ev, .int .i64 ct, .int .i64 un, .slice D ds.length dc, .slice M ms.length mc, .slice Y ys.length yc, .slice X x.length xc, .slice O o.length oc] 101)).alloc (.cells #[.string (str u2), .string (str t2), .int .i64 s2, .int .i64 l2, .int .i64 fr2, .int .i64 ev2, .int .i64 ct2, .int .i64 un2, .slice D2 ds2.length dc2, .slice M2 ms2.length mc2, .slice Y2 ys2.length yc2, .slice X2 x2.length xc2, .slice O2 o2.length oc2] 101)).cell? ⟨w.heap.size + 1, 4, none⟩ = some (.int .i64 fr2) := cell_two2 w _ _ _ _ 4 _ rfl
    have b5 : ((w.alloc (.cells #[.string (str u), .string (str t), .int .i64 s, .int .i64 l, .int .i64 fr, .int .i64 ev, .int .i64 ct, .int .i64 un, .slice D ds.length dc, .slice M ms.length mc, .slice Y ys.length yc, .slice X x.length xc, .slice O o.length oc] 101)).alloc (.cells #[.string (str u2), .string (str t2), .int .i64 s2, .int .i64 l2, .int .i64 fr2, .int .i64 ev2, .int .i64 ct2, .int .i64 un2, .slice D2 ds2.length dc2, .slice M2 ms2.length mc2, .slice Y2 ys2.length yc2, .slice X2 x2.length xc2, .slice O2 o2.length oc2] 101)).cell? ⟨w.heap.size + 1, 5, none⟩ = some (.int .i64 ev2) := cell_two2 w _ _ _ _ 5 _ rfl
    have b6 : ((w.alloc (.cells #[.string (str u), .string (str t), .int .i64 s, .int .i64 l, .int .i64 fr, .int .i64 ev, .int .i64 ct, .int .i64 un, .slice D ds.length dc, .slice M ms.length mc, .slice Y ys.length yc, .slice X x.length xc, .slice O o.length oc] 101)).alloc (.cells #[.string (str u2), .string (str t2), .int .i64 s2, .int .i64 l2, .int .i64 fr2, .int .i64 ev2, .int .i64 ct2, .int .i64 un2, .slice D2 ds2.length dc2, .slice M2 ms2.length mc2, .slice Y2 ys2.length yc2, .slice X2 x2.length xc2, .slice O2 o2.length oc2] 101)).cell? ⟨w.heap.size + 1, 6, none⟩ = some (.int .i64 ct2) := cell_two2 w _ _ _ _ 6 _ rfl
    have b7 : ((w.alloc (.cells #[.string (str u), .string (str t), .int .i64 s, .int .i64 l, .int .i64 fr, .int .i64 ev, .int .i64 ct, .int .i64 un, .slice D ds.length dc, .slice M ms.length mc, .slice Y ys.length yc, .slice X x.length xc, .slice O o.length oc] 101)).alloc (.cells #[.string (str u2), .string (str t2), .int .i64 s2, .int .i64 l2, .int .i64 fr2, .int .i64 ev2, .int .i64 ct2, .int .i64 un2, .slice D2 ds2.length dc2, .slice M2 ms2.length mc2, .slice Y2 ys2.length yc2, .slice X2 x2.length xc2, .slice O2 o2.length oc2] 101)).cell? ⟨w.heap.size + 1, 7, none⟩ = some (.int .i64 un2) := cell_two2 w _ _ _ _ 7 _ rfl
    have b8 : ((w.alloc (.cells #[.string (str u), .string (str t), .int .i64 s, .int .i64 l, .int .i64 fr, .int .i64 ev, .int .i64 ct, .int .i64 un, .slice D ds.length dc, .slice M ms.length mc, .slice Y ys.length yc, .slice X x.length xc, .slice O o.length oc] 101)).alloc (.cells #[.string (str u2), .string (str t2), .int .i64 s2, .int .i64 l2, .int .i64 fr2, .int .i64 ev2, .int .i64 ct2, .int .i64 un2, .slice D2 ds2.length dc2, .slice M2 ms2.length mc2, .slice Y2 ys2.length yc2, .slice X2 x2.length xc2, .slice O2 o2.length oc2] 101)).cell? ⟨w.heap.size + 1, 8, none⟩ = some (.slice D2 ds2.length dc2) := cell_two2 w _ _ _ _ 8 _ rfl
    have b9 : ((w.alloc (.cells #[.string (str u), .string (str t), .int .i64 s, .int .i64 l, .int .i64 fr, .int .i64 ev, .int .i64 ct, .int .i64 un, .slice D ds.length dc, .slice M ms.length mc, .slice Y ys.length yc, .slice X x.length xc, .slice O o.length oc] 101)).alloc (.cells #[.string (str u2), .string (str t2), .int .i64 s2, .int .i64 l2, .int .i64 fr2, .int .i64 ev2, .int .i64 ct2, .int .i64 un2, .slice D2 ds2.length dc2, .slice M2 ms2.length mc2, .slice Y2 ys2.length yc2, .slice X2 x2.length xc2, .slice O2 o2.length oc2] 101)).cell? ⟨w.heap.size + 1, 9, none⟩ = some (.slice M2 ms2.length mc2) := cell_two2 w _ _ _ _ 9 _ rfl
    have b10 : ((w.alloc (.cells #[.string (str u), .string (str t), .int .i64 s, .int .i64 l, .int .i64 fr, .int .i64 ev, .int .i64 ct, .int .i64 un, .slice D ds.length dc, .slice M ms.length mc, .slice Y ys.length yc, .slice X x.length xc, .slice O o.length oc] 101)).alloc (.cells #[.string (str u2), .string (str t2), .int .i64 s2, .int .i64 l2, .int .i64 fr2, .int .i64 ev2, .int .i64 ct2, .int .i64 un2, .slice D2 ds2.length dc2, .slice M2 ms2.length mc2, .slice Y2 ys2.length yc2, .slice X2 x2.length xc2, .slice O2 o2.length oc2] 101)).cell? ⟨w.heap.size + 1, 10, none⟩ = some (.slice Y2 ys2.length yc2) := cell_two2 w _ _ _ _ 10 _ rfl
    have b11 : ((w.alloc (.cells #[.string (str u), .string (str t), .int .i64 s, .int .i64 l, .int .i64 fr, .int .i64 ev, .int .i64 ct, .int .i64 un, .slice D ds.length dc, .slice M ms.length mc, .slice Y ys.length yc, .slice X x.length xc, .slice O o.length oc] 101)).alloc (.cells #[.string (str u2), .string (str t2), .int .i64 s2, .int .i64 l2, .int .i64 fr2, .int .i64 ev2, .int .i64 ct2, .int .i64 un2, .slice D2 ds2.length dc2, .slice M2 ms2.length mc2, .slice Y2 ys2.length yc2, .slice X2 x2.length xc2, .slice O2 o2.length oc2] 101)).cell? ⟨w.heap.size + 1, 11, none⟩ = some (.slice X2 x2.length xc2) := cell_two2 w _ _ _ _ 11 _ rfl
    have b12 : ((w.alloc (.cells #[.string (str u), .string (str t), .int .i64 s, .int .i64 l, .int .i64 fr, .int .i64 ev, .int .i64 ct, .int .i64 un, .slice D ds.length dc, .slice M ms.length mc, .slice Y ys.length yc, .slice X x.length xc, .slice O o.length oc] 101)).alloc (.cells #[.string (str u2), .string (str t2), .int .i64 s2, .int .i64 l2, .int .i64 fr2, .int .i64 ev2, .int .i64 ct2, .int .i64 un2, .slice D2 ds2.length dc2, .slice M2 ms2.length mc2, .slice Y2 ys2.length yc2, .slice X2 x2.length xc2, .slice O2 o2.length oc2] 101)).cell? ⟨w.heap.size + 1, 12, none⟩ = some (.slice O2 o2.length oc2) := cell_two2 w _ _ _ _ 12 _ rfl
    have q1 := str_tl u
    have q2 := str_tl t
    have q3 := str_tl u2
    have q4 := str_tl t2
    cases z1
    · simp only [Bool.false_and]
      go_enter Tryz.func114, Tryz.ntmps114
      go_wp2_with fail
      go_ret
      exact ⟨rfl, HBX.out⟩
    cases z2
    · simp only [Bool.true_and, Bool.false_and]
      go_enter Tryz.func114, Tryz.ntmps114
      go_wp2_with fail
      go_ret
      exact ⟨rfl, HBX.out⟩
    cases z3
    · simp only [Bool.true_and, Bool.false_and]
      go_enter Tryz.func114, Tryz.ntmps114
      go_wp2_with fail
      refine (C1.out _ HL.out KL.out).mono ?_
      rintro e w1 ⟨rfl, hb⟩
      replace HBX := hide (andthen HBX.out hb)
      clear hb a0 b0 a1 b1 a2 b2 a3 b3 a4 b4 a5 b5 a6 b6 a7 b7 a8 b8 a9 b9 a10 b10 a11 b11 a12 b12
      go_wp2_with fail
      go_ret
      exact ⟨rfl, HBX.out⟩
    · simp only [Bool.true_and]
      go_enter Tryz.func114, Tryz.ntmps114
      go_wp2_with fail
      refine (C1.out _ HL.out KL.out).mono ?_
      rintro e w1 ⟨rfl, hb⟩
      replace HBX := hide (andthen HBX.out hb)
      replace HO := hide (HO.out.keep hb)
      replace KO := hide (KO.out.keep hb)
      replace a12 := cell_keep hb a12
      replace b12 := cell_keep hb b12
      clear hb a0 b0 a1 b1 a2 b2 a3 b3 a4 b4 a5 b5 a6 b6 a7 b7 a8 b8 a9 b9 a10 b10 a11 b11
      go_wp2_with fail
      refine (C2.out _ HO.out KO.out).mono ?_
      rintro e w2 ⟨rfl, hb⟩
      replace HBX := hide (andthen HBX.out hb)
      clear hb
      go_wp2_with fail
      go_ret
      exact ⟨rfl, HBX.out⟩
  rw [sameE_is]
  exact key _ _ _ rfl rfl rfl
set_option maxRecDepth 100000 in
set_option maxHeartbeats 4000000 in
theorem eSame_any (e f : Ev.E) (m n : Mem) (w : World) (h : EvL w e m) (k : EvL w f n) :
    Calls Tryz.prog 82 #[evV e m, evV f n] w (Ans w (.bool (Ev.sameE e f))) := by
  have HBX := hide (more (more (start w) (.cells #[.string (str e.uid), .string (str e.text), .int .i64 e.st, .int .i64 e.lg, .slice m.O e.rooms.length m.oc, .int .i64 e.r.fr, .int .i64 e.r.ev, .int .i64 e.r.ct, .int .i64 e.r.un, .slice m.D e.r.ds.length m.dc, .slice m.M e.r.ms.length m.mc, .slice m.Y e.r.ys.length m.yc, .slice m.X e.ex.length m.xc] 29)) (.cells #[.string (str f.uid), .string (str f.text), .int .i64 f.st, .int .i64 f.lg, .slice n.O f.rooms.length n.oc, .int .i64 f.r.fr, .int .i64 f.r.ev, .int .i64 f.r.ct, .int .i64 f.r.un, .slice n.D f.r.ds.length n.dc, .slice n.M f.r.ms.length n.mc, .slice n.Y f.r.ys.length n.yc, .slice n.X f.ex.length n.xc] 29))
  have HL := hide (h.keep HBX.out)
  have KL := hide (k.keep HBX.out)
  have C := hide (fun w h k => psameE_any e f m n w h k)
  clear h k
  generalize Ev.sameE e f = RB at *
  obtain ⟨u, t, s, l, o, ⟨fr, ev, ct, un, ds, ms, ys⟩, x⟩ := e
  obtain ⟨O, oc, D, dc, M, mc, Y, yc, X, xc⟩ := m
  obtain ⟨u2, t2, s2, l2, o2, ⟨fr2, ev2, ct2, un2, ds2, ms2, ys2⟩, x2⟩ := f
  obtain ⟨O2, oc2, D2, dc2, M2, mc2, Y2, yc2, X2, xc2⟩ := n
  simp only [evV, paV] at HBX HL KL C ⊢
  generalize str u = U at *
  generalize str t = T at *
  generalize str u2 = U2 at *
  generalize str t2 = T2 at *
  have a0 : ((w.alloc (.cells #[.string U, .string T, .int .i64 s, .int .i64 l, .slice O o.length oc, .int .i64 fr, .int .i64 ev, .int .i64 ct, .int .i64 un, .slice D ds.length dc, .slice M ms.length mc, .slice Y ys.length yc, .slice X x.length xc] 29)).alloc (.cells #[.string U2, .string T2, .int .i64 s2, .int .i64 l2, .slice O2 o2.length oc2, .int .i64 fr2, .int .i64 ev2, .int .i64 ct2, .int .i64 un2, .slice D2 ds2.length dc2, .slice M2 ms2.length mc2, .slice Y2 ys2.length yc2, .slice X2 x2.length xc2] 29)).cell? ⟨w.heap.size, 0, none⟩ = some (.string U) := cell_two w _ _ _ _ 0 _ rfl
  have a1 : ((w.alloc (.cells #[.string U, .string T, .int .i64 s, .int .i64 l, .slice O o.length oc, .int .i64 fr, .int .i64 ev, .int .i64 ct, .int .i64 un, .slice D ds.length dc, .slice M ms.length mc, .slice Y ys.length yc, .slice X x.length xc] 29)).alloc (.cells #[.string U2, .string T2, .int .i64 s2, .int .i64 l2, .slice O2 o2.length oc2, .int .i64 fr2, .int .i64 ev2, .int .i64 ct2, .int .i64 un2, .slice D2 ds2.length dc2, .slice M2 ms2.length mc2, .slice Y2 ys2.length yc2, .slice X2 x2.length xc2] 29)).cell? ⟨w.heap.size, 1, none⟩ = some (.string T) := cell_two w _ _ _ _ 1 _ rfl
  have a2 : ((w.alloc (.cells #[.string U, .string T, .int .i64 s, .int .i64 l, .slice O o.length oc, .int .i64 fr, .int .i64 ev, .int .i64 ct, .int .i64 un, .slice D ds.length dc, .slice M ms.length mc, .slice Y ys.length yc, .slice X x.length xc] 29)).alloc (.cells #[.string U2, .string T2, .int .i64 s2, .int .i64 l2, .slice O2 o2.length oc2, .int .i64 fr2, .int .i64 ev2, .int .i64 ct2, .int .i64 un2, .slice D2 ds2.length dc2, .slice M2 ms2.length mc2, .slice Y2 ys2.length yc2, .slice X2 x2.length xc2] 29)).cell? ⟨w.heap.size, 2, none⟩ = some (.int .i64 s) := cell_two w _ _ _ _ 2 _ rfl
  have a3 : ((w.alloc (.cells #[.string U, .string T, .int .i64 s, .int .i64 l, .slice O o.length oc, .int .i64 fr, .int .i64 ev, .int .i64 ct, .int .i64 un, .slice D ds.length dc, .slice M ms.length mc, .slice Y ys.length yc, .slice X x.length xc] 29)).alloc (.cells #[.string U2, .string T2, .int .i64 s2, .int .i64 l2, .slice O2 o2.length oc2, .int .i64 fr2, .int .i64 ev2, .int .i64 ct2, .int .i64 un2, .slice D2 ds2.length dc2, .slice M2 ms2.length mc2, .slice Y2 ys2.length yc2, .slice X2 x2.length xc2] 29)).cell? ⟨w.heap.size, 3, none⟩ = some (.int .i64 l) := cell_two w _ _ _ _ 3 _ rfl
  have a4 : ((w.alloc (.cells #[.string U, .string T, .int .i64 s, .int .i64 l, .slice O o.length oc, .int .i64 fr, .int .i64 ev, .int .i64 ct, .int .i64 un, .slice D ds.length dc, .slice M ms.length mc, .slice Y ys.length yc, .slice X x.length xc] 29)).alloc (.cells #[.string U2, .string T2, .int .i64 s2, .int .i64 l2, .slice O2 o2.length oc2, .int .i64 fr2, .int .i64 ev2, .int .i64 ct2, .int .i64 un2, .slice D2 ds2.length dc2, .slice M2 ms2.length mc2, .slice Y2 ys2.length yc2, .slice X2 x2.length xc2] 29)).cell? ⟨w.heap.size, 4, none⟩ = some (.slice O o.length oc) := cell_two w _ _ _ _ 4 _ rfl
  have a5 : ((w.alloc (.cells #[.string U, .string T, .int .i64 s, .int .i64 l, .slice O o.length oc, .int .i64 fr, .int .i64 ev, .int .i64 ct, .int .i64 un, .slice D ds.length dc, .slice M ms.length mc, .slice Y ys.length yc, .slice X x.length xc] 29)).alloc (.cells #[.string U2, .string T2, .int .i64 s2, .int .i64 l2, .slice O2 o2.length oc2, .int .i64 fr2, .int .i64 ev2, .int .i64 ct2, .int .i64 un2, .slice D2 ds2.length dc2, .slice M2 ms2.length mc2, .slice Y2 ys2.length yc2, .slice X2 x2.length xc2] 29)).cell? ⟨w.heap.size, 5, none⟩ = some (.int .i64 fr) := cell_two w _ _ _ _ 5 _ rfl
  have a6 : ((w.alloc (.cells #[.string U, .string T, .int .i64 s, .int .i64 l, .slice O o.length oc, .int .i64 fr, .int .i64 ev, .int .i64 ct, .int .i64 un, .slice D ds.length dc, .slice M ms.length mc, .slice Y ys.length yc, .slice X x.length xc] 29)).alloc (.cells #[.string U2, .string T2, .int .i64 s2, .int .i64 l2, .slice O2 o2.length oc2, .int .i64 fr2, .int .i64 ev2, .int .i64 ct2, .int .i64 un2, .slice D2 ds2.length dc2, .slice M2 ms2.length mc2, .slice Y2 ys2.length yc2, .slice X2 x2.length xc2] 29)).cell? ⟨w.heap.size, 6, none⟩ = some (.int .i64 ev) := cell_two w _ _ _ _ 6 _ rfl
  have a7 : ((w.alloc (.cells #[.string U, .string T, .int .i64 s, .int .i64 l, .slice O o.length oc, .int .i64 fr, .int .i64 ev, .int .i64 ct, .int .i64 un, .slice D ds.length dc, .slice M ms.length mc, .slice Y ys.length yc, .slice X x.length xc] 29)).alloc (.cells #[.string U2, .string T2, .int .i64 s2, .int .i64 l2, .slice O2 o2.length oc2, .int .i64 fr2, .int .i64 ev2, .int .i64 ct2, .int .i64 un2, .slice D2 ds2.length dc2, .slice M2 ms2.length mc2, .slice Y2 ys2.length yc2, .slice X2 x2.length xc2] 29)).cell? ⟨w.heap.size, 7, none⟩ = some (.int .i64 ct) := cell_two w _ _ _ _ 7 _ rfl
  have a8 : ((w.alloc (.cells #[.string U, .string T, .int .i64 s, .int .i64 l, .slice O o.length oc, .int .i64 fr, .int .i64 ev, .int .i64 ct, .int .i64 un, .slice D ds.length dc, .slice M ms.length mc, .slice Y ys.length yc, .slice X x.length xc] 29)).alloc (.cells #[.string U2, .string T2, .int .i64 s2, .int .i64 l2, .slice O2 o2.length oc2, .int .i64 fr2, .int .i64 ev2, .int .i64 ct2, .int .i64 un2, .slice D2 ds2.length dc2, .slice M2 ms2.length mc2, .slice Y2 ys2.length yc2, .slice X2 x2.length xc2] 29)).cell? ⟨w.heap.size, 8, none⟩ = some (.int .i64 un) := cell_two w _ _ _ _ 8 _ rfl
  have a9 : ((w.alloc (.cells #[.string U, .string T, .int .i64 s, .int .i64 l, .slice O o.length oc, .int .i64 fr, .int .i64 ev, .int .i64 ct, .int .i64 un, .slice D ds.length dc, .slice M ms.length mc, .slice Y ys.length yc, .slice X x.length xc] 29)).alloc (.cells #[.string U2, .string T2, .int .i64 s2, .int .i64 l2, .slice O2 o2.length oc2, .int .i64 fr2, .int .i64 ev2, .int .i64 ct2, .int .i64 un2, .slice D2 ds2.length dc2, .slice M2 ms2.length mc2, .slice Y2 ys2.length yc2, .slice X2 x2.length xc2] 29)).cell? ⟨w.heap.size, 9, none⟩ = some (.slice D ds.length dc) := cell_two w _ _ _ _ 9 _ rfl
  have a10 : ((w.alloc (.cells #[.string U, .string T, .int .i64 s, .int .i64 l, .slice O o.length oc, .int .i64 fr, .int .i64 ev, .int .i64 ct, .int .i64 un, .slice D ds.length dc, .slice M ms.length mc, .slice Y ys.length yc, .slice X x.length xc] 29)).alloc (.cells #[.string U2, .string T2, .int .i64 s2, .int .i64 l2, .slice O2 o2.length oc2, .int .i64 fr2, .int .i64 ev2, .int .i64 ct2, .int .i64 un2, .slice D2 ds2.length dc2, .slice M2 ms2.length mc2, .slice Y2 ys2.length yc2, .slice X2 x2.length xc2] 29)).cell? ⟨w.heap.size, 10, none⟩ = some (.slice M ms.length mc) := cell_two w _ _ _ _ 10 _ rfl
  have a11 : ((w.alloc (.cells #[.string U, .string T, .int .i64 s, .int .i64 l, .slice O o.length oc, .int .i64 fr, .int .i64 ev, .int .i64 ct, .int .i64 un, .slice D ds.length dc, .slice M ms.length mc, .slice Y ys.length yc, .slice X x.length xc] 29)).alloc (.cells #[.string U2, .string T2, .int .i64 s2, .int .i64 l2, .slice O2 o2.length oc2, .int .i64 fr2, .int .i64 ev2, .int .i64 ct2, .int .i64 un2, .slice D2 ds2.length dc2, .slice M2 ms2.length mc2, .slice Y2 ys2.length yc2, .slice X2 x2.length xc2] 29)).cell? ⟨w.heap.size, 11, none⟩ = some (.slice Y ys.length yc) := cell_two w _ _ _ _ 11 _ rfl
  have a12 : ((w.alloc (.cells #[.string U, .string T, .int .i64 s, .int .i64 l, .slice O o.length oc, .int .i64 fr, .int .i64 ev, .int .i64 ct, .int .i64 un, .slice D ds.length dc, .slice M ms.length mc, .slice Y ys.length yc, .slice X x.length xc] 29)).alloc (.cells #[.string U2, .string T2, .int .i64 s2, .int .i64 l2, .slice O2 o2.length oc2, .int .i64 fr2, .int .i64 ev2, .int .i64 ct2, .int .i64 un2, .slice D2 ds2.length dc2, .slice M2 ms2.length mc2, .slice Y2 ys2.length yc2, .slice X2 x2.length xc2] 29)).cell? ⟨w.heap.size, 12, none⟩ = some (.slice X x.length xc) := cell_two w _ _ _ _ 12 _ rfl
  have b0 : ((w.alloc (.cells #[.string U, .string T, .int .i64 s, .int .i64 l, .slice O o.length oc, .int .i64 fr, .int .i64 ev, .int .i64 ct, .int .i64 un, .slice D ds.length dc, .slice M ms.length mc, .slice Y ys.length yc, .slice X x.length xc] 29)).alloc (.cells #[.string U2, .string T2, .int .i64 s2, .int .i64 l2, .slice O2 o2.length oc2, .int .i64 fr2, .int .i64 ev2, .int .i64 ct2, .int .i64 un2, .slice D2 ds2.length dc2, .slice M2 ms2.length mc2, .slice Y2 ys2.length yc2, .slice X2 x2.length xc2] 29)).cell? ⟨w.heap.size + 1, 0, none⟩ = some (.string U2) := cell_two2 w _ _ _ _ 0 _ rfl
  have b1 : ((w.alloc (.cells #[.string U, .string T, .int .i64 s, .int .i64 l, .slice O o.length oc, .int .i64 fr, .int .i64 ev, .int .i64 ct, .int .i64 un, .slice D ds.length dc, .slice M ms.length mc, .slice Y ys.length yc, .slice X x.length xc] 29)).alloc (.cells #[.string U2, .string T2, .int .i64 s2, .int .i64 l2, .slice O2 o2.length oc2, .int .i64 fr2, .int .i64 ev2, .int .i64 ct2, .int .i64 un2, .slice D2 ds2.length dc2, .slice M2 ms2.length mc2, .slice Y2 ys2.length yc2, .slice X2 x2.length xc2] 29)).cell? ⟨w.heap.size + 1, 1, none⟩ = some (.string T2) := cell_two2 w _ _ _ _ 1 _ rfl
  have b2 : ((w.alloc (.cells #[.string U, .string T, .int .i64 s, .int .i64 l, .slice O o.length oc, .int .i64 fr, .int .i64 ev, .int .i64 ct, .int .i64 un, .slice D ds.length dc, .slice M ms.length mc, .slice Y ys.length yc, .slice X x.length xc] 29)).alloc (.cells #[.string U2, .string T2, .int .i64 s2, .int .i64 l2, .slice O2 o2.length oc2, .int .i64 fr2, .int .i64 ev2, .int .i64 ct2, .int .i64 un2, .slice D2 ds2.length dc2, .slice M2 ms2.length mc2, .slice Y2 ys2.length yc2, .slice X2 x2.length xc2] 29)).cell? ⟨w.heap.size + 1, 2, none⟩ = some (.int .i64 s2) := cell_two2 w _ _ _ _ 2 _ rfl
  have b3 : ((w.alloc (.cells #[.string U, .string T, .int .i64 s, .int .i64 l, .slice O o.length oc, .int .i64 fr, .int .i64 ev, .int .i64 ct, .int .i64 un, .slice D ds.length dc, .slice M ms.length mc, .slice Y ys.length yc, .slice X x.length xc] 29)).alloc (.cells #[.string U2, .string T2, .int .i64 s2, .int .i64 l2, .slice O2 o2.length oc2, .int .i64 fr2, .int .i64 ev2, .int .i64 ct2, .int .i64 un2, .slice D2 ds2.length dc2, .slice M2 ms2.length mc2, .slice Y2 ys2.length yc2, .slice X2 x2.length xc2] 29)).cell? ⟨w.heap.size + 1, 3, none⟩ = some (.int .i64 l2) := cell_two2 w _ _ _ _ 3 _ rfl
  have b4 : ((w.alloc (.cells #[.string U, .string T, .int .i64 s, .int .i64 l, .slice O o.length oc, .int .i64 fr, .int .i64 ev, .int .i64 ct, .int .i64 un, .slice D ds.length dc, .slice M ms.length mc, .slice Y ys.length yc, .slice X x.length xc] 29)).alloc (.cells #[.string U2, .string T2, .int .i64 s2, .int .i64 l2, .slice O2 o2.length oc2, .int .i64 fr2, .int .i64 ev2, .int .i64 ct2, .int .i64 un2, .slice D2 ds2.length dc2, .slice M2 ms2.length mc2, .slice Y2 ys2.length yc2, .slice X2 x2.length xc2] 29)).cell? ⟨w.heap.size + 1, 4, none⟩ = some (.slice O2 o2.length oc2) := cell_two2 w _ _ _ _ 4 _ rfl
  have b5 : ((w.alloc (.cells #[.string U, .string T, .int .i64 s, .int .i64 l, .slice O o.length oc, .int .i64 fr, .int .i64 ev, .int .i64 ct, .int .i64 un, .slice D ds.length dc, .slice M ms.length mc, .slice Y ys.length yc, .slice X x.length xc] 29)).alloc (.cells #[.string U2, .string T2, .int .i64 s2, .int .i64 l2, .slice O2 o2.length oc2, .int .i64 fr2, .int .i64 ev2, .int .i64 ct2, .int .i64 un2, .slice D2 ds2.length dc2, .slice M2 ms2.length mc2, .slice Y2 ys2.length yc2, .slice X2 x2.length xc2] 29)).cell? ⟨w.heap.size + 1, 5, none⟩ = some (.int .i64 fr2) := cell_two2 w _ _ _ _ 5 _ rfl
  have b6 : ((w.alloc (.cells #[.string U, .string T, .int .i64 s, .int .i64 l, .slice O o.length oc, .int .i64 fr, .int .i64 ev, .int .i64 ct, .int .i64 un, .slice D ds.length dc, .slice M ms.length mc, .slice Y ys.length yc, .slice X x.length xc] 29)).alloc (.cells #[.string U2, .string T2, .int .i64 s2, .int .i64 l2, .slice O2 o2.length oc2, .int .i64 fr2, .int .i64 ev2, .int .i64 ct2, .int .i64 un2, .slice D2 ds2.length dc2, .slice M2 ms2.length mc2, .slice Y2 ys2.length yc2, .slice X2 x2.length xc2] 29)).cell? ⟨w.heap.size + 1, 6, none⟩ = some (.int .i64 ev2) := cell_two2 w _ _ _ _ 6 _ rfl
  have b7 : ((w.alloc (.cells #[.string U, .string T, .int .i64 s, .int .i64 l, .slice O o.length oc, .int .i64 fr, .int .i64 ev, .int .i64 ct, .int .i64 un, .slice D ds.length dc, .slice M ms.length mc, .slice Y ys.length yc, .slice X x.length xc] 29)).alloc (.cells #[.string U2, .string T2, .int .i64 s2, .int .i64 l2, .slice O2 o2.length oc2, .int .i64 fr2, .int .i64 ev2, .int .i64 ct2, .int .i64 un2, .slice D2 ds2.length dc2, .slice M2 ms2.length mc2, .slice Y2 ys2.length yc2, .slice X2 x2.length xc2] 29)).cell? ⟨w.heap.size + 1, 7, none⟩ = some (.int .i64 ct2) := cell_two2 w _ _ _ _ 7 _ rfl
  have b8 : ((w.alloc (.cells #[.string U, .string T, .int .i64 s, .int .i64 l, .slice O o.length oc, .int .i64 fr, .int .i64 ev, .int .i64 ct, .int .i64 un, .slice D ds.length dc, .slice M ms.length mc, .slice Y ys.length yc, .slice X x.length xc] 29)).alloc (.cells #[.string U2, .string T2, .int .i64 s2, .int .i64 l2, .slice O2 o2.length oc2, .int .i64 fr2, .int .i64 ev2, .int .i64 ct2, .int .i64 un2, .slice D2 ds2.length dc2, .slice M2 ms2.length mc2, .slice Y2 ys2.length yc2, .slice X2 x2.length xc2] 29)).cell? ⟨w.heap.size + 1, 8, none⟩ = some (.int .i64 un2) := cell_two2 w _ _ _ _ 8 _ rfl
  have b9 : ((w.alloc (.cells #[.string U, .string T, .int .i64 s, .int .i64 l, .slice O o.length oc, .int .i64 fr, .int .i64 ev, .int .i64 ct, .int .i64 un, .slice D ds.length dc, .slice M ms.length mc, .slice Y ys.length yc, .slice X x.length xc] 29)).alloc (.cells #[.string U2, .string T2, .int .i64 s2, .int .i64 l2, .slice O2 o2.length oc2, .int .i64 fr2, .int .i64 ev2, .int .i64 ct2, .int .i64 un2, .slice D2 ds2.length dc2, .slice M2 ms2.length mc2, .slice Y2 ys2.length yc2, .slice X2 x2.length xc2] 29)).cell? ⟨w.heap.size + 1, 9, none⟩ = some (.slice D2 ds2.length dc2) := cell_two2 w _ _ _ _ 9 _ rfl
  have b10 : ((w.alloc (.cells #[.string U, .string T, .int .i64 s, .int .i64 l, .slice O o.length oc, .int .i64 fr, .int .i64 ev, .int .i64 ct, .int .i64 un, .slice D ds.length dc, .slice M ms.length mc, .slice Y ys.length yc, .slice X x.length xc] 29)).alloc (.cells #[.string U2, .string T2, .int .i64 s2, .int .i64 l2, .slice O2 o2.length oc2, .int .i64 fr2, .int .i64 ev2, .int .i64 ct2, .int .i64 un2, .slice D2 ds2.length dc2, .slice M2 ms2.length mc2, .slice Y2 ys2.length yc2, .slice X2 x2.length xc2] 29)).cell? ⟨w.heap.size + 1, 10, none⟩ = some (.slice M2 ms2.length mc2) := cell_two2 w _ _ _ _ 10 _ rfl
  have b11 : ((w.alloc (.cells #[.string U, .string T, .int .i64 s, .int .i64 l, .slice O o.length oc, .int .i64 fr, .int .i64 ev, .int .i64 ct, .int .i64 un, .slice D ds.length dc, .slice M ms.length mc, .slice Y ys.length yc, .slice X x.length xc] 29)).alloc (.cells #[.string U2, .string T2, .int .i64 s2, .int .i64 l2, .slice O2 o2.length oc2, .int .i64 fr2, .int .i64 ev2, .int .i64 ct2, .int .i64 un2, .slice D2 ds2.length dc2, .slice M2 ms2.length mc2, .slice Y2 ys2.length yc2, .slice X2 x2.length xc2] 29)).cell? ⟨w.heap.size + 1, 11, none⟩ = some (.slice Y2 ys2.length yc2) := cell_two2 w _ _ _ _ 11 _ rfl
  have b12 : ((w.alloc (.cells #[.string U, .string T, .int .i64 s, .int .i64 l, .slice O o.length oc, .int .i64 fr, .int .i64 ev, .int .i64 ct, .int .i64 un, .slice D ds.length dc, .slice M ms.length mc, .slice Y ys.length yc, .slice X x.length xc] 29)).alloc (.cells #[.string U2, .string T2, .int .i64 s2, .int .i64 l2, .slice O2 o2.length oc2, .int .i64 fr2, .int .i64 ev2, .int .i64 ct2, .int .i64 un2, .slice D2 ds2.length dc2, .slice M2 ms2.length mc2, .slice Y2 ys2.length yc2, .slice X2 x2.length xc2] 29)).cell? ⟨w.heap.size + 1, 12, none⟩ = some (.slice X2 x2.length xc2) := cell_two2 w _ _ _ _ 12 _ rfl
  go_enter Tryz.func82, Tryz.ntmps82
  go_wp2_with fail
  generalize ((w.alloc (.cells #[.string U, .string T, .int .i64 s, .int .i64 l, .slice O o.length oc, .int .i64 fr, .int .i64 ev, .int .i64 ct, .int .i64 un, .slice D ds.length dc, .slice M ms.length mc, .slice Y ys.length yc, .slice X x.length xc] 29)).alloc (.cells #[.string U2, .string T2, .int .i64 s2, .int .i64 l2, .slice O2 o2.length oc2, .int .i64 fr2, .int .i64 ev2, .int .i64 ct2, .int .i64 un2, .slice D2 ds2.length dc2, .slice M2 ms2.length mc2, .slice Y2 ys2.length yc2, .slice X2 x2.length xc2] 29)) = W at *
  have fa0 := fun d os => cell_regrown a0 d os
  have fb0 := fun d os => cell_regrown b0 d os
  have fa1 := fun d os => cell_regrown a1 d os
  have fb1 := fun d os => cell_regrown b1 d os
  have fa2 := fun d os => cell_regrown a2 d os
  have fb2 := fun d os => cell_regrown b2 d os
  have fa3 := fun d os => cell_regrown a3 d os
  have fb3 := fun d os => cell_regrown b3 d os
  have fa4 := fun d os => cell_regrown a4 d os
  have fb4 := fun d os => cell_regrown b4 d os
  have fa5 := fun d os => cell_regrown a5 d os
  have fb5 := fun d os => cell_regrown b5 d os
  have fa6 := fun d os => cell_regrown a6 d os
  have fb6 := fun d os => cell_regrown b6 d os
  have fa7 := fun d os => cell_regrown a7 d os
  have fb7 := fun d os => cell_regrown b7 d os
  have fa8 := fun d os => cell_regrown a8 d os
  have fb8 := fun d os => cell_regrown b8 d os
  have fa9 := fun d os => cell_regrown a9 d os
  have fb9 := fun d os => cell_regrown b9 d os
  have fa10 := fun d os => cell_regrown a10 d os
  have fb10 := fun d os => cell_regrown b10 d os
  have fa11 := fun d os => cell_regrown a11 d os
  have fb11 := fun d os => cell_regrown b11 d os
  have fa12 := fun d os => cell_regrown a12 d os
  have fb12 := fun d os => cell_regrown b12 d os
  have L1 := hide (fun d os => EvL.keep HL.out (below_regrown W d os))
  have L2 := hide (fun d os => EvL.keep KL.out (below_regrown W d os))
  clear HL KL a0 b0 a1 b1 a2 b2 a3 b3 a4 b4 a5 b5 a6 b6 a7 b7 a8 b8 a9 b9 a10 b10 a11 b11 a12 b12
  refine wp_region_quiet_below (by kernel_rfl) (by kernel_rfl) ?_
  repeat (first | go_big_quiet_step ((first | (go_at_call 55; exact Calls.regrown_of (partsOf_flat _ _ _ _ _ _ _ _ _ _ _ _ _ _ _ _ _ _ _ _ _ _ _ _ )) | (go_at_call 114; exact Calls.regrown_of (C.out _ (L1.out _ _) (L2.out _ _))))) | quiet_step ((first | (go_at_call 55; exact Calls.regrown_of (partsOf_flat _ _ _ _ _ _ _ _ _ _ _ _ _ _ _ _ _ _ _ _ _ _ _ _ )) | (go_at_call 114; exact Calls.regrown_of (C.out _ (L1.out _ _) (L2.out _ _))))))
  refine wpQuiet_nil ?_
  intro _ hw'
  obtain ⟨⟨nq, osq⟩, hw''⟩ := hw'
  subst hw''
  replace HBX := hide (andthen HBX.out (below_regrown W nq osq))
  go_wp2_with fail
  go_ret
  exact ⟨rfl, HBX.out⟩

end Go.Proofs.YtlmdceeeahnkcaaGreatDoor

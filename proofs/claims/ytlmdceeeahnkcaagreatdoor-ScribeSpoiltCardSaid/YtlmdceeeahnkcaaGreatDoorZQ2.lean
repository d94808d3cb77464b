/- DeId; DeA; DeB; DeC of the recipes, what is needed of them. -/
import Derived.Test.YtlmdceeeahnkcaaGreatDoorBRuC
import Derived.Deep.RegionHeld3
import Derived.Test.YtlmdceeeahnkcaaGreatDoorBW9
import Derived.Test.YtlmdceeeahnkcaaGreatDoorBC1
import Derived.Deep.MidRow
import Derived.Great.BuildSlice
import Derived.Test.YtlmdceeeahnkcaaGreatDoorBW10
import Derived.Test.YtlmdceeeahnkcaaGreatDoorBC4
import Derived.Test.YtlmdceeeahnkcaaGreatDoorZQ1
namespace Go.Proofs.YtlmdceeeahnkcaaGreatDoor
open Go.RowKit Rul De Go.Sort

theorem dseq_any (n : Int) (w : World) : Calls Tryz.prog 35 #[.int .i64 n] w (Ans w (.bool (seqB n))) := by
  unfold seqB
  by_cases h : 1 ≤ n
  · have e := hide (show (decide (1 ≤ n) && decide (n ≤ 1000000)) = decide (n ≤ 1000000) by rw [decide_eq_true h, Bool.true_and])
    go_enter Tryz.func35, Tryz.ntmps35
    go_wp2_with fail
    go_ret
    exact ⟨ret_bool e.out.symm, start _⟩
  · have e := hide (show (decide (1 ≤ n) && decide (n ≤ 1000000)) = false by rw [decide_eq_false h, Bool.false_and])
    go_enter Tryz.func35, Tryz.ntmps35
    go_wp2_with fail
    go_ret
    exact ⟨ret_bool e.out.symm, start _⟩
theorem dpeer_any (n : Int) (w : World) : Calls Tryz.prog 34 #[.int .i64 n] w (Ans w (.bool (peB n))) := by
  unfold peB
  by_cases h : 0 ≤ n
  · have e := hide (show (decide (0 ≤ n) && decide (n < 4)) = decide (n < 4) by rw [decide_eq_true h, Bool.true_and])
    go_enter Tryz.func34, Tryz.ntmps34
    go_wp2_with fail
    go_ret
    exact ⟨ret_bool e.out.symm, start _⟩
  · have e := hide (show (decide (0 ≤ n) && decide (n < 4)) = false by rw [decide_eq_false h, Bool.false_and])
    go_enter Tryz.func34, Tryz.ntmps34
    go_wp2_with fail
    go_ret
    exact ⟨ret_bool e.out.symm, start _⟩
theorem rseq_any (n : Int) (w : World) : Calls Tryz.prog 24 #[.int .i64 n] w (Ans w (.bool (seqB n))) := by
  unfold seqB
  by_cases h : 1 ≤ n
  · have e := hide (show (decide (1 ≤ n) && decide (n ≤ 1000000)) = decide (n ≤ 1000000) by rw [decide_eq_true h, Bool.true_and])
    go_enter Tryz.func24, Tryz.ntmps24
    go_wp2_with fail
    go_ret
    exact ⟨ret_bool e.out.symm, start _⟩
  · have e := hide (show (decide (1 ≤ n) && decide (n ≤ 1000000)) = false by rw [decide_eq_false h, Bool.false_and])
    go_enter Tryz.func24, Tryz.ntmps24
    go_wp2_with fail
    go_ret
    exact ⟨ret_bool e.out.symm, start _⟩
theorem rpeer_any (n : Int) (w : World) : Calls Tryz.prog 23 #[.int .i64 n] w (Ans w (.bool (peB n))) := by
  unfold peB
  by_cases h : 0 ≤ n
  · have e := hide (show (decide (0 ≤ n) && decide (n < 4)) = decide (n < 4) by rw [decide_eq_true h, Bool.true_and])
    go_enter Tryz.func23, Tryz.ntmps23
    go_wp2_with fail
    go_ret
    exact ⟨ret_bool e.out.symm, start _⟩
  · have e := hide (show (decide (0 ≤ n) && decide (n < 4)) = false by rw [decide_eq_false h, Bool.false_and])
    go_enter Tryz.func23, Tryz.ntmps23
    go_wp2_with fail
    go_ret
    exact ⟨ret_bool e.out.symm, start _⟩
theorem dseq_at (n : Int) (b : Bool) (w : World) (h : seqB n = b) : Calls Tryz.prog 35 #[.int .i64 n] w (Ans w (.bool b)) := ans_is (dseq_any n w) h
theorem dpeer_at (n : Int) (b : Bool) (w : World) (h : peB n = b) : Calls Tryz.prog 34 #[.int .i64 n] w (Ans w (.bool b)) := ans_is (dpeer_any n w) h
theorem rseq_at (n : Int) (b : Bool) (w : World) (h : seqB n = b) : Calls Tryz.prog 24 #[.int .i64 n] w (Ans w (.bool b)) := ans_is (rseq_any n w) h
theorem rpeer_at (n : Int) (b : Bool) (w : World) (h : peB n = b) : Calls Tryz.prog 23 #[.int .i64 n] w (Ans w (.bool b)) := ans_is (rpeer_any n w) h

theorem did_any (s t : Int) (w : World) : Calls Tryz.prog 30 #[.agg #[.int .i64 s, .int .i64 t]] w (Ans w (.bool (idB (s, t)))) := by
  obtain ⟨p, hp⟩ : ∃ p, seqB s = p := ⟨_, rfl⟩
  have e : idB (s, t) = (p && peB t) := by unfold idB; rw [hp]
  rw [e]
  have HP := hide hp
  clear hp e
  cases p
  · go_enter Tryz.func30, Tryz.ntmps30
    go_wp2_with fail
    refine (dseq_at s false _ HP.out).mono ?_
    rintro e w1 ⟨rfl, hb⟩
    go_wp2_with fail
    go_ret
    exact ⟨rfl, andthen (more (start _) _) hb⟩
  · go_enter Tryz.func30, Tryz.ntmps30
    go_wp2_with fail
    refine (dseq_at s true _ HP.out).mono ?_
    rintro e w1 ⟨rfl, hb⟩
    have c := cell_keep hb (show (w.alloc (.cells #[.int .i64 s, .int .i64 t] 23)).cell? ⟨w.heap.size, 1, none⟩ = some (.int .i64 t) by rw [World.cell?_alloc_at _ _ _ _ rfl]; rfl)
    go_wp2_with fail
    refine (dpeer_any t _).mono ?_
    rintro e w2 ⟨rfl, hc⟩
    go_wp2_with fail
    go_ret
    exact ⟨ret_bool (Bool.true_and _).symm, andthen (andthen (more (start _) _) hb) hc⟩
set_option maxHeartbeats 1600000 in
theorem rid_any (s t : Int) (w : World) : Calls Tryz.prog 20 #[.agg #[.int .i64 s, .int .i64 t]] w (Ans w (.bool (idB (s, t)))) := by
  by_cases h1 : 1 ≤ s
  · by_cases h2 : s ≤ 1000000
    · by_cases h3 : 0 ≤ t
      · have e := hide (show idB (s, t) = decide (t < 4) by unfold idB seqB peB; rw [decide_eq_true h1, decide_eq_true h2, decide_eq_true h3]; rfl)
        go_enter Tryz.func20, Tryz.ntmps20
        go_wp2_with fail
        go_ret
        exact ⟨ret_bool e.out.symm, more (start _) _⟩
      · have e := hide (show idB (s, t) = false by unfold idB seqB peB; rw [decide_eq_true h1, decide_eq_true h2, decide_eq_false h3]; rfl)
        go_enter Tryz.func20, Tryz.ntmps20
        go_wp2_with fail
        go_ret
        exact ⟨ret_bool e.out.symm, more (start _) _⟩
    · have e := hide (show idB (s, t) = false by unfold idB seqB; rw [decide_eq_true h1, decide_eq_false h2]; rfl)
      go_enter Tryz.func20, Tryz.ntmps20
      go_wp2_with fail
      go_ret
      exact ⟨ret_bool e.out.symm, more (start _) _⟩
  · have e := hide (show idB (s, t) = false by unfold idB seqB; rw [decide_eq_false h1]; rfl)
    go_enter Tryz.func20, Tryz.ntmps20
    go_wp2_with fail
    go_ret
    exact ⟨ret_bool e.out.symm, more (start _) _⟩
theorem did_at (i : Nm) (b : Bool) (w : World) (h : idB i = b) : Calls Tryz.prog 30 #[.agg #[.int .i64 i.1, .int .i64 i.2]] w (Ans w (.bool b)) := ans_is (did_any i.1 i.2 w) h
theorem rid_at (i : Nm) (b : Bool) (w : World) (h : idB i = b) : Calls Tryz.prog 20 #[.agg #[.int .i64 i.1, .int .i64 i.2]] w (Ans w (.bool b)) := ans_is (rid_any i.1 i.2 w) h

theorem cell_keepA {a b : World} {p : Addr} {v : Value} (h : Below a.heap.size a b) (c : a.cell? p = some v) : b.cell? p = some v := (h.cell (World.block_lt_of_cell? _ _ c)).trans c
end Go.Proofs.YtlmdceeeahnkcaaGreatDoor
namespace Go.Proofs.YtlmdceeeahnkcaaGreatDoor
open Go.RowKit Rul De Cl

section
variable {ops : Array Oper} {rest : List Oper} {o : Oper} {a : Act} {w : World} {Q : Exit → Act → World → Prop}
theorem load_at (hw : Region.wanted o (yielded ops a.tmps) = true) (ty : TypeId) (x : Operand) (ho : o.op = .load ty x) (b f : Nat) (hx : a.eval x = .pointer (some ⟨b, f, none⟩)) (cs : List Value) (hc : w.rangeAt b f cs) (d : TypeDesc)
    (hu : Tryz.prog.underlying ty = some d) (hd : d.isRow = true) (hi : (Tryz.prog.info? ty).map (·.size) = some cs.length) (h : wpList Tryz.prog ops Q rest (a.put o.dst (.agg cs.toArray)) w) : wpList Tryz.prog ops Q (o :: rest) a w :=
  wpList_step fun K hK => by rw [if_pos hw]; exact wp_load_mid ty x ho b f hx cs d hc hu hd hi (hK _ _ h)
theorem load_deed (hw : Region.wanted o (yielded ops a.tmps) = true) (x : Operand) (ho : o.op = .load 34 x) (b f : Nat) (hx : a.eval x = .pointer (some ⟨b, f, none⟩)) (cs : List Value) (hc : w.rangeAt b f cs) (hl : cs.length = 35)
    (h : wpList Tryz.prog ops Q rest (a.put o.dst (.agg cs.toArray)) w) : wpList Tryz.prog ops Q (o :: rest) a w :=
  load_at hw _ x ho b f hx cs hc _ Tryz.underlying34 rfl (by rw [hl]; kernel_rfl) h
theorem load_book (hw : Region.wanted o (yielded ops a.tmps) = true) (x : Operand) (ho : o.op = .load 32 x) (b f : Nat) (hx : a.eval x = .pointer (some ⟨b, f, none⟩)) (cs : List Value) (hc : w.rangeAt b f cs) (hl : cs.length = 16)
    (h : wpList Tryz.prog ops Q rest (a.put o.dst (.agg cs.toArray)) w) : wpList Tryz.prog ops Q (o :: rest) a w :=
  load_at hw _ x ho b f hx cs hc _ Tryz.underlying32 rfl (by rw [hl]; kernel_rfl) h
theorem load_event (hw : Region.wanted o (yielded ops a.tmps) = true) (x : Operand) (ho : o.op = .load 29 x) (b f : Nat) (hx : a.eval x = .pointer (some ⟨b, f, none⟩)) (cs : List Value) (hc : w.rangeAt b f cs) (hl : cs.length = 13)
    (h : wpList Tryz.prog ops Q rest (a.put o.dst (.agg cs.toArray)) w) : wpList Tryz.prog ops Q (o :: rest) a w :=
  load_at hw _ x ho b f hx cs hc _ Tryz.underlying29 rfl (by rw [hl]; kernel_rfl) h
theorem build_at (hw : Region.wanted o (yielded ops a.tmps) = true) (t : TypeId) (parts : Array (Nat × Operand)) (ho : o.op = .build t parts) (cs : Array Value) (hb : Tryz.prog.built t (parts.map fun (i, x) => (i, a.eval x)).toList = some cs)
    (h : wpList Tryz.prog ops Q rest (a.put o.dst (.agg cs)) w) : wpList Tryz.prog ops Q (o :: rest) a w :=
  wpList_step fun K hK => by
    rw [if_pos hw]
    unfold Oper.wp execOp
    simp only [ho, Sem.run_bind, run_build w t _ _ hb, Result.andThen_ok]
    exact hK _ _ h
theorem build_two (hw : Region.wanted o (yielded ops a.tmps) = true) (t e : TypeId) (x y : Operand) (ho : o.op = .buildSlice t 2 #[(0, x), (1, y)]) (s : Nat) (u v : List Value) (hx : a.eval x = .agg u.toArray) (hy : a.eval y = .agg v.toArray)
    (hu : Tryz.prog.underlying t = some (.slice e)) (hsz : (Tryz.prog.info? e).map (·.size) = some s) (hz : ((Tryz.prog.info? e).bind (·.zero)).isSome = true) (hul : u.length = s) (hvl : v.length = s) (hs : 0 < s) (hsm : 2 * s ≤ 2 ^ 24) (N : Nat) (hN : w.heap.size = N)
    (h : wpList Tryz.prog ops Q rest (a.put o.dst (.slice (some ⟨N, 0, none⟩) 2 2)) (w.alloc (.cells (u ++ v).toArray e))) : wpList Tryz.prog ops Q (o :: rest) a w := by
  subst hN
  cases hie : Tryz.prog.info? e with
  | none => simp [hie] at hsz
  | some ie =>
    simp only [hie, Option.map_some, Option.some.injEq, Option.bind_some] at hsz hz
    obtain ⟨z, hzz⟩ := Option.isSome_iff_exists.1 hz
    refine wpList_step fun K hK => ?_
    rw [if_pos hw]
    refine wp_buildSlice t e 2 _ ho (u ++ v).toArray ie z hu hie hzz (by rw [hsz]; omega) (by rw [hsz]; omega) ?_ (hK _ _ h)
    have e1 : ((#[(0, x), (1, y)] : Array (Nat × Operand)).map fun (i, x) => (i, a.eval x)).toList = ([Value.agg u.toArray, .agg v.toArray].zipIdx 0).map fun x => (x.2, x.1) := by simp [hx, hy]
    have e2 := Great.fill_whole hs [Value.agg u.toArray, .agg v.toArray] ((Array.range (2 * s)).map (z.cells[· % z.cells.size]!)) (fun q hq => by
      simp only [List.mem_cons, List.not_mem_nil, or_false] at hq
      rcases hq with rfl | rfl <;> simp [Value.cells, hul, hvl]) (by simp)
    rw [e1, hsz, e2]
    simp [Value.cells]
theorem two_deeds (hw : Region.wanted o (yielded ops a.tmps) = true) (x y : Operand) (ho : o.op = .buildSlice 47 2 #[(0, x), (1, y)]) (u v : List Value) (hx : a.eval x = .agg u.toArray) (hy : a.eval y = .agg v.toArray) (hul : u.length = 35) (hvl : v.length = 35) (N : Nat) (hN : w.heap.size = N)
    (h : wpList Tryz.prog ops Q rest (a.put o.dst (.slice (some ⟨N, 0, none⟩) 2 2)) (w.alloc (.cells (u ++ v).toArray 34))) : wpList Tryz.prog ops Q (o :: rest) a w :=
  build_two hw _ 34 x y ho 35 u v hx hy Tryz.underlying47 (by kernel_rfl) (by kernel_rfl) hul hvl (by decide) (by decide) N hN h
end

theorem range_cell {w : World} {b f : Nat} {cs : List Value} (h : w.rangeAt b f cs) (j k : Nat) (v : Value) (hj : cs[j]? = some v) (hk : f + j = k) : w.cell? ⟨b, k, none⟩ = some v := by subst hk; exact h j v hj
theorem range_mid {w : World} {b f : Nat} {pre part post : List Value} (h : w.rangeAt b f (pre ++ (part ++ post))) (k : Nat) (hk : f + pre.length = k) : w.rangeAt b k part := fun j v hv => by
  subst hk
  have := h (pre.length + j) v (by rw [List.getElem?_append_right (Nat.le_add_right _ _), Nat.add_sub_cancel_left, List.getElem?_append_left (List.getElem?_eq_some_iff.1 hv).1]; exact hv)
  rwa [← Nat.add_assoc] at this
theorem range_end {w : World} {b f : Nat} {pre part : List Value} (h : w.rangeAt b f (pre ++ part)) (k : Nat) (hk : f + pre.length = k) : w.rangeAt b k part :=
  range_mid (post := []) (by rw [List.append_nil]; exact h) k hk
theorem range_keep {w w1 : World} {b f : Nat} {cs : List Value} (h : w.rangeAt b f cs) (hb : Below w.heap.size w w1) : w1.rangeAt b f cs := fun j v hv => cell_keepA hb (h j v hv)
theorem range_new (w : World) (cs : List Value) (t : TypeId) : (w.alloc (.cells cs.toArray t)).rangeAt w.heap.size 0 cs := fun j v hv => by
  rw [World.cell?_alloc_at _ _ _ _ rfl, Nat.zero_add]
  simpa using hv

/-- an event's cells. -/
def evC (e : Ev.E) (m : Mem) : List Value := [.string (str e.uid), .string (str e.text), .int .i64 e.st, .int .i64 e.lg, .slice m.O e.rooms.length m.oc, .int .i64 e.r.fr, .int .i64 e.r.ev, .int .i64 e.r.ct, .int .i64 e.r.un, .slice m.D e.r.ds.length m.dc, .slice m.M e.r.ms.length m.mc, .slice m.Y e.r.ys.length m.yc, .slice m.X e.ex.length m.xc]
/-- a booking's. -/
def bkC (b : B) (m : Mem) : List Value := .int .i64 b.id.1 :: .int .i64 b.id.2 :: .int .i64 b.st :: evC b.e m
/-- where a deed's lists lie. -/
structure DM where
  e : Mem
  A : Option Addr
  c : Nat
  b : Mem
/-- a deed's cells. -/
def dC (d : D) (m : DM) : List Value := .int .i64 d.kd :: .int .i64 d.id.1 :: .int .i64 d.id.2 :: (evC d.e m.e ++ (.slice m.A d.cl.length m.c :: .int .i64 d.pe :: .int .i64 d.n :: bkC d.b m.b))
theorem dC_len (d : D) (m : DM) : (dC d m).length = 35 := rfl
/-- a deed's lists in memory. -/
structure DL (w : World) (d : D) (m : DM) : Prop where
  e : EvL w d.e m.e
  c : S2.RowC w m.A d.cl
  cl : d.cl.length ≤ 10000
  b : EvL w d.b.e m.b
theorem DL.keep {w w1 : World} {d : D} {m : DM} (h : DL w d m) (hb : Below w.heap.size w w1) : DL w1 d m := ⟨h.e.keep hb, h.c.keep hb, h.cl, h.b.keep hb⟩
/-- a deed's cells in a block: those that are asked one by one, its event's, its booking's. -/
structure DAt (w : World) (X f : Nat) (d : D) (m : DM) : Prop where
  all : w.rangeAt X f (dC d m)
  ev : w.rangeAt X (f + 3) (evC d.e m.e)
  bk : w.rangeAt X (f + 19) (bkC d.b m.b)
theorem dAt_of {w : World} {X f : Nat} {d : D} {m : DM} (h : w.rangeAt X f (dC d m)) : DAt w X f d m :=
  ⟨h, range_mid (pre := [.int .i64 d.kd, .int .i64 d.id.1, .int .i64 d.id.2]) (post := .slice m.A d.cl.length m.c :: .int .i64 d.pe :: .int .i64 d.n :: bkC d.b m.b) h _ rfl,
    range_end (pre := .int .i64 d.kd :: .int .i64 d.id.1 :: .int .i64 d.id.2 :: (evC d.e m.e ++ [.slice m.A d.cl.length m.c, .int .i64 d.pe, .int .i64 d.n])) h _ rfl⟩
theorem DAt.keep {w w1 : World} {X f : Nat} {d : D} {m : DM} (h : DAt w X f d m) (hb : Below w.heap.size w w1) : DAt w1 X f d m := dAt_of (range_keep h.all hb)
theorem esame_c (e f : Ev.E) (m n : Mem) (b : Bool) (w : World) (h : EvL w e m) (k : EvL w f n) (hb : Ev.sameE e f = b) : Calls Tryz.prog 82 #[.agg (evC e m).toArray, .agg (evC f n).toArray] w (Ans w (.bool b)) := hb ▸ eSame_any e f m n w h k
theorem eis_c (e : Ev.E) (m : Mem) (b : Bool) (w : World) (h : EvL w e m) (hb : Ev.isE e = b) : Calls Tryz.prog 31 #[.agg (evC e m).toArray] w (Ans w (.bool b)) := hb ▸ eIs_any e m w h
end Go.Proofs.YtlmdceeeahnkcaaGreatDoor
namespace Go.Proofs.YtlmdceeeahnkcaaGreatDoor
open Go.RowKit Rul De Cl Go.Sort

theorem resame_c (e f : Ev.E) (m n : Mem) (b : Bool) (w : World) (h : EvL w e m) (k : EvL w f n) (hb : Ev.sameE e f = b) : Calls Tryz.prog 18 #[.agg (evC e m).toArray, .agg (evC f n).toArray] w (Ans w (.bool b)) := hb ▸ rSame_any e f m n w h k
theorem reis_c (e : Ev.E) (m : Mem) (b : Bool) (w : World) (h : EvL w e m) (hb : Ev.isE e = b) : Calls Tryz.prog 21 #[.agg (evC e m).toArray] w (Ans w (.bool b)) := hb ▸ rIs_any e m w h
/-- two values put into memory, one behind the other. -/
abbrev dtwo (w : World) (cs ds : List Value) (t u : TypeId) : World := (w.alloc (.cells cs.toArray t)).alloc (.cells ds.toArray u)
theorem dtwo_below (w : World) (cs ds : List Value) (t u : TypeId) : Below w.heap.size w (dtwo w cs ds t u) := more (more (start w) _) _
theorem dtwo_fst (w : World) (cs ds : List Value) (t u : TypeId) : (dtwo w cs ds t u).rangeAt w.heap.size 0 cs := range_keep (range_new w cs t) (more (start _) _)
theorem dtwo_snd (w : World) (cs ds : List Value) (t u : TypeId) : (dtwo w cs ds t u).rangeAt (w.heap.size + 1) 0 ds := by
  have := range_new (w.alloc (.cells cs.toArray t)) ds u
  rw [World.size_alloc] at this
  exact this
set_option maxRecDepth 100000 in
set_option maxHeartbeats 4000000 in
theorem dsameBk_any (x y : B) (m n : Mem) (w : World) (h : EvL w x.e m) (k : EvL w y.e n) :
    Calls Tryz.prog 83 #[.agg (bkC x m).toArray, .agg (bkC y n).toArray] w (Ans w (.bool (sameBk x y))) := by
  have key : ∀ (z0 z1 z2 z3 : Bool), (x.id.1 == y.id.1) = z0 → (x.id.2 == y.id.2) = z1 → (x.st == y.st) = z2 → Ev.sameE x.e y.e = z3 → Calls Tryz.prog 83 #[.agg (bkC x m).toArray, .agg (bkC y n).toArray] w (Ans w (.bool ((z0 && z1) && (z2 && z3)))) := by
    intro z0 z1 z2 z3 h0 h1 h2 h3
    have HB := hide (dtwo_below w (bkC x m) (bkC y n) 32 32)
    have HX := hide (h.keep HB.out)
    have HY := hide (k.keep HB.out)
    have R0 := dtwo_fst w (bkC x m) (bkC y n) 32 32
    have R1 := dtwo_snd w (bkC x m) (bkC y n) 32 32
    have a0 := range_cell R0 0 0 _ rfl rfl
    have a1 := range_cell R0 1 1 _ rfl rfl
    have a2 := range_cell R0 2 2 _ rfl rfl
    have b0 := range_cell R1 0 0 _ rfl rfl
    have b1 := range_cell R1 1 1 _ rfl rfl
    have b2 := range_cell R1 2 2 _ rfl rfl
    have E0 := hide (range_end (pre := [.int .i64 x.id.1, .int .i64 x.id.2, .int .i64 x.st]) R0 3 rfl)
    have E1 := hide (range_end (pre := [.int .i64 y.id.1, .int .i64 y.id.2, .int .i64 y.st]) R1 3 rfl)
    have C3 := hide h3
    clear h k R0 R1 h3
    obtain ⟨⟨i, j⟩, s, e⟩ := x
    obtain ⟨⟨i2, j2⟩, s2, e2⟩ := y
    dsimp only at *
    cases z0
    · go_enter Tryz.func83, Tryz.ntmps83
      go_wp2_with fail
      go_ret
      exact ⟨rfl, HB.out⟩
    cases z1
    · go_enter Tryz.func83, Tryz.ntmps83
      go_wp2_with fail
      go_ret
      exact ⟨rfl, HB.out⟩
    cases z2
    · go_enter Tryz.func83, Tryz.ntmps83
      go_wp2_with fail
      go_ret
      exact ⟨rfl, HB.out⟩
    go_enter Tryz.func83, Tryz.ntmps83
    go_wp2_with (first | refine load_event rfl _ rfl _ _ rfl _ E0.out rfl ?_ | refine load_event rfl _ rfl _ _ rfl _ E1.out rfl ?_)
    refine (esame_c _ _ _ _ _ _ HX.out HY.out C3.out).mono ?_
    rintro q w1 ⟨rfl, hb⟩
    clear a0 a1 a2 b0 b1 b2 E0 E1
    replace HB := hide (andthen HB.out hb)
    clear hb
    go_wp2_with fail
    go_ret
    exact ⟨rfl, HB.out⟩
  exact key _ _ _ _ rfl rfl rfl rfl
set_option maxRecDepth 100000 in
set_option maxHeartbeats 4000000 in
theorem rsameBk_any (x y : B) (m n : Mem) (w : World) (h : EvL w x.e m) (k : EvL w y.e n) :
    Calls Tryz.prog 19 #[.agg (bkC x m).toArray, .agg (bkC y n).toArray] w (Ans w (.bool (sameBk x y))) := by
  have key : ∀ (z0 z1 z2 z3 : Bool), (x.id.1 == y.id.1) = z0 → (x.id.2 == y.id.2) = z1 → (x.st == y.st) = z2 → Ev.sameE x.e y.e = z3 → Calls Tryz.prog 19 #[.agg (bkC x m).toArray, .agg (bkC y n).toArray] w (Ans w (.bool ((z0 && z1) && (z2 && z3)))) := by
    intro z0 z1 z2 z3 h0 h1 h2 h3
    have HB := hide (dtwo_below w (bkC x m) (bkC y n) 32 32)
    have HX := hide (h.keep HB.out)
    have HY := hide (k.keep HB.out)
    have R0 := dtwo_fst w (bkC x m) (bkC y n) 32 32
    have R1 := dtwo_snd w (bkC x m) (bkC y n) 32 32
    have a0 := range_cell R0 0 0 _ rfl rfl
    have a1 := range_cell R0 1 1 _ rfl rfl
    have a2 := range_cell R0 2 2 _ rfl rfl
    have b0 := range_cell R1 0 0 _ rfl rfl
    have b1 := range_cell R1 1 1 _ rfl rfl
    have b2 := range_cell R1 2 2 _ rfl rfl
    have E0 := hide (range_end (pre := [.int .i64 x.id.1, .int .i64 x.id.2, .int .i64 x.st]) R0 3 rfl)
    have E1 := hide (range_end (pre := [.int .i64 y.id.1, .int .i64 y.id.2, .int .i64 y.st]) R1 3 rfl)
    have C3 := hide h3
    clear h k R0 R1 h3
    obtain ⟨⟨i, j⟩, s, e⟩ := x
    obtain ⟨⟨i2, j2⟩, s2, e2⟩ := y
    dsimp only at *
    cases z0
    · go_enter Tryz.func19, Tryz.ntmps19
      go_wp2_with fail
      go_ret
      exact ⟨rfl, HB.out⟩
    cases z1
    · go_enter Tryz.func19, Tryz.ntmps19
      go_wp2_with fail
      go_ret
      exact ⟨rfl, HB.out⟩
    cases z2
    · go_enter Tryz.func19, Tryz.ntmps19
      go_wp2_with fail
      go_ret
      exact ⟨rfl, HB.out⟩
    go_enter Tryz.func19, Tryz.ntmps19
    go_wp2_with (first | refine load_event rfl _ rfl _ _ rfl _ E0.out rfl ?_ | refine load_event rfl _ rfl _ _ rfl _ E1.out rfl ?_)
    refine (resame_c _ _ _ _ _ _ HX.out HY.out C3.out).mono ?_
    rintro q w1 ⟨rfl, hb⟩
    clear a0 a1 a2 b0 b1 b2 E0 E1
    replace HB := hide (andthen HB.out hb)
    clear hb
    go_wp2_with fail
    go_ret
    exact ⟨rfl, HB.out⟩
  exact key _ _ _ _ rfl rfl rfl rfl
set_option maxRecDepth 100000 in
set_option maxHeartbeats 4000000 in
theorem disBk_any (x : B) (m : Mem) (w : World) (h : EvL w x.e m) :
    Calls Tryz.prog 36 #[.agg (bkC x m).toArray] w (Ans w (.bool (bkB x))) := by
  have key : ∀ (z0 z1 z2 z3 : Bool), idB x.id = z0 → Ev.isE x.e = z1 → (x.st == 2) = z2 → (x.st == 4) = z3 → Calls Tryz.prog 36 #[.agg (bkC x m).toArray] w (Ans w (.bool (z0 && (z1 && (z2 || z3))))) := by
    intro z0 z1 z2 z3 h0 h1 h2 h3
    have HB := hide (more (start w) (.cells (bkC x m).toArray 32))
    have HX := hide (h.keep HB.out)
    have R0 := range_new w (bkC x m) 32
    have a0 := range_cell R0 0 0 _ rfl rfl
    have a1 := range_cell R0 1 1 _ rfl rfl
    have E0 := hide (range_end (pre := [.int .i64 x.id.1, .int .i64 x.id.2, .int .i64 x.st]) R0 3 rfl)
    have a2 := hide (range_cell R0 2 2 _ rfl rfl)
    have C0 := hide h0
    have C1 := hide h1
    clear h R0 h0 h1
    obtain ⟨⟨i, j⟩, s, e⟩ := x
    dsimp only at *
    go_enter Tryz.func36, Tryz.ntmps36
    go_wp2_with fail
    refine (did_at (i, j) _ _ C0.out).mono ?_
    rintro q w1 ⟨rfl, hb⟩
    replace HB := hide (andthen HB.out hb)
    replace HX := hide (HX.out.keep hb)
    replace E0 := hide (range_keep E0.out hb)
    replace a2 := hide (cell_keepA hb a2.out)
    clear hb a0 a1
    cases z0
    · go_wp2_with fail
      go_ret
      exact ⟨rfl, HB.out⟩
    go_wp2_with (refine load_event rfl _ rfl _ _ rfl _ E0.out rfl ?_)
    refine (eis_c _ _ _ _ HX.out C1.out).mono ?_
    rintro q w2 ⟨rfl, hb⟩
    replace HB := hide (andthen HB.out hb)
    replace a2 := cell_keepA hb a2.out
    clear hb E0
    cases z1
    · go_wp2_with fail
      go_ret
      exact ⟨rfl, HB.out⟩
    cases z2
    · go_wp2_with fail
      go_ret
      exact ⟨rfl, HB.out⟩
    · go_wp2_with fail
      go_ret
      exact ⟨rfl, HB.out⟩
  exact key _ _ _ _ rfl rfl rfl rfl
theorem disBk_c (x : B) (m : Mem) (b : Bool) (w : World) (h : EvL w x.e m) (hb : bkB x = b) : Calls Tryz.prog 36 #[.agg (bkC x m).toArray] w (Ans w (.bool b)) := hb ▸ disBk_any x m w h
theorem dsameBk_c (x y : B) (m n : Mem) (b : Bool) (w : World) (h : EvL w x.e m) (k : EvL w y.e n) (hb : sameBk x y = b) : Calls Tryz.prog 83 #[.agg (bkC x m).toArray, .agg (bkC y n).toArray] w (Ans w (.bool b)) := hb ▸ dsameBk_any x y m n w h k
set_option maxRecDepth 100000 in
set_option maxHeartbeats 4000000 in
theorem risBk_any (x : B) (m : Mem) (w : World) (h : EvL w x.e m) :
    Calls Tryz.prog 25 #[.agg (bkC x m).toArray] w (Ans w (.bool (bkB x))) := by
  have key : ∀ (z0 z1 z2 z3 : Bool), idB x.id = z0 → Ev.isE x.e = z1 → (x.st == 2) = z2 → (x.st == 4) = z3 → Calls Tryz.prog 25 #[.agg (bkC x m).toArray] w (Ans w (.bool (z0 && (z1 && (z2 || z3))))) := by
    intro z0 z1 z2 z3 h0 h1 h2 h3
    have HB := hide (more (start w) (.cells (bkC x m).toArray 32))
    have HX := hide (h.keep HB.out)
    have R0 := range_new w (bkC x m) 32
    have a0 := range_cell R0 0 0 _ rfl rfl
    have a1 := range_cell R0 1 1 _ rfl rfl
    have E0 := hide (range_end (pre := [.int .i64 x.id.1, .int .i64 x.id.2, .int .i64 x.st]) R0 3 rfl)
    have a2 := hide (range_cell R0 2 2 _ rfl rfl)
    have C0 := hide h0
    have C1 := hide h1
    clear h R0 h0 h1
    obtain ⟨⟨i, j⟩, s, e⟩ := x
    dsimp only at *
    go_enter Tryz.func25, Tryz.ntmps25
    go_wp2_with fail
    refine (rid_at (i, j) _ _ C0.out).mono ?_
    rintro q w1 ⟨rfl, hb⟩
    replace HB := hide (andthen HB.out hb)
    replace HX := hide (HX.out.keep hb)
    replace E0 := hide (range_keep E0.out hb)
    replace a2 := hide (cell_keepA hb a2.out)
    clear hb a0 a1
    cases z0
    · go_wp2_with fail
      go_ret
      exact ⟨rfl, HB.out⟩
    go_wp2_with (refine load_event rfl _ rfl _ _ rfl _ E0.out rfl ?_)
    refine (reis_c _ _ _ _ HX.out C1.out).mono ?_
    rintro q w2 ⟨rfl, hb⟩
    replace HB := hide (andthen HB.out hb)
    replace a2 := cell_keepA hb a2.out
    clear hb E0
    cases z1
    · go_wp2_with fail
      go_ret
      exact ⟨rfl, HB.out⟩
    cases z2
    · go_wp2_with fail
      go_ret
      exact ⟨rfl, HB.out⟩
    · go_wp2_with fail
      go_ret
      exact ⟨rfl, HB.out⟩
  exact key _ _ _ _ rfl rfl rfl rfl
theorem risBk_c (x : B) (m : Mem) (b : Bool) (w : World) (h : EvL w x.e m) (hb : bkB x = b) : Calls Tryz.prog 25 #[.agg (bkC x m).toArray] w (Ans w (.bool b)) := hb ▸ risBk_any x m w h
theorem rsameBk_c (x y : B) (m n : Mem) (b : Bool) (w : World) (h : EvL w x.e m) (k : EvL w y.e n) (hb : sameBk x y = b) : Calls Tryz.prog 19 #[.agg (bkC x m).toArray, .agg (bkC y n).toArray] w (Ans w (.bool b)) := hb ▸ rsameBk_any x y m n w h k
set_option maxRecDepth 100000 in
set_option maxHeartbeats 16000000 in
theorem dsameD_any (x y : D) (m n : DM) (w : World) (h : DL w x m) (k : DL w y n) :
    Calls Tryz.prog 57 #[.agg (dC x m).toArray, .agg (dC y n).toArray] w (Ans w (.bool (sameD x y))) := by
  have key : ∀ (z0 z1 z2 z3 z4 z5 z6 z7 : Bool), (x.kd == y.kd) = z0 → (x.id.1 == y.id.1) = z1 → (x.id.2 == y.id.2) = z2 → Ev.sameE x.e y.e = z3 → decide (x.cl = y.cl) = z4 → (x.pe == y.pe) = z5 → (x.n == y.n) = z6 → sameBk x.b y.b = z7 →
      Calls Tryz.prog 57 #[.agg (dC x m).toArray, .agg (dC y n).toArray] w (Ans w (.bool (z0 && ((z1 && z2) && (z3 && (z4 && (z5 && (z6 && z7)))))))) := by
    intro z0 z1 z2 z3 z4 z5 z6 z7 h0 h1 h2 h3 h4 h5 h6 h7
    have HB := hide (dtwo_below w (dC x m) (dC y n) 34 34)
    have HX := hide (h.keep HB.out)
    have HY := hide (k.keep HB.out)
    have R0 := dtwo_fst w (dC x m) (dC y n) 34 34
    have R1 := dtwo_snd w (dC x m) (dC y n) 34 34
    have S0 := dAt_of R0
    have S1 := dAt_of R1
    have a0 := range_cell R0 0 0 _ rfl rfl
    have a1 := range_cell R0 1 1 _ rfl rfl
    have a2 := range_cell R0 2 2 _ rfl rfl
    have a3 := range_cell R0 16 16 _ rfl rfl
    have a4 := range_cell R0 17 17 _ rfl rfl
    have a5 := range_cell R0 18 18 _ rfl rfl
    have b0 := range_cell R1 0 0 _ rfl rfl
    have b1 := range_cell R1 1 1 _ rfl rfl
    have b2 := range_cell R1 2 2 _ rfl rfl
    have b3 := range_cell R1 16 16 _ rfl rfl
    have b4 := range_cell R1 17 17 _ rfl rfl
    have b5 := range_cell R1 18 18 _ rfl rfl
    have E0 := hide S0.ev
    have E1 := hide S1.ev
    have K0 := hide S0.bk
    have K1 := hide S1.bk
    have C3 := hide h3
    have C4 := hide (fun W (u : S2.RowC W m.A x.cl) (v : S2.RowC W n.A y.cl) => ans_is (S2.equalC_any m.A n.A x.cl.length y.cl.length m.c n.c x.cl y.cl W u v rfl rfl (by have := h.cl; omega) (by have := k.cl; omega)) h4)
    have C7 := hide h7
    clear h k R0 R1 S0 S1 h3 h4 h7
    obtain ⟨kd, ⟨i, j⟩, e, cl, pe, nn, b⟩ := x
    obtain ⟨kd2, ⟨i2, j2⟩, e2, cl2, pe2, nn2, b2'⟩ := y
    dsimp only at *
    cases z0
    · go_enter Tryz.func57, Tryz.ntmps57
      go_wp2_with fail
      go_ret
      exact ⟨rfl, HB.out⟩
    cases z1
    · go_enter Tryz.func57, Tryz.ntmps57
      go_wp2_with fail
      go_ret
      exact ⟨rfl, HB.out⟩
    cases z2
    · go_enter Tryz.func57, Tryz.ntmps57
      go_wp2_with fail
      go_ret
      exact ⟨rfl, HB.out⟩
    go_enter Tryz.func57, Tryz.ntmps57
    go_wp2_with (first | refine load_event rfl _ rfl _ _ rfl _ E0.out rfl ?_ | refine load_event rfl _ rfl _ _ rfl _ E1.out rfl ?_)
    refine (esame_c _ _ _ _ _ _ HX.out.e HY.out.e C3.out).mono ?_
    rintro q w1 ⟨rfl, hb⟩
    clear a0 a1 a2 b0 b1 b2 E0 E1 h0 h1 h2
    replace HB := hide (andthen HB.out hb)
    replace HX := hide (HX.out.keep hb)
    replace HY := hide (HY.out.keep hb)
    replace K0 := hide (range_keep K0.out hb)
    replace K1 := hide (range_keep K1.out hb)
    replace a3 := cell_keepA hb a3
    replace a4 := cell_keepA hb a4
    replace a5 := cell_keepA hb a5
    replace b3 := cell_keepA hb b3
    replace b4 := cell_keepA hb b4
    replace b5 := cell_keepA hb b5
    clear hb
    cases z3
    · go_wp2_with fail
      go_ret
      exact ⟨rfl, HB.out⟩
    go_wp2_with fail
    refine (C4.out _ HX.out.c HY.out.c).mono ?_
    rintro q w2 ⟨rfl, hb⟩
    clear a3 b3
    replace HB := hide (andthen HB.out hb)
    replace HX := hide (HX.out.keep hb)
    replace HY := hide (HY.out.keep hb)
    replace K0 := hide (range_keep K0.out hb)
    replace K1 := hide (range_keep K1.out hb)
    replace a4 := cell_keepA hb a4
    replace a5 := cell_keepA hb a5
    replace b4 := cell_keepA hb b4
    replace b5 := cell_keepA hb b5
    clear hb
    cases z4
    · go_wp2_with fail
      go_ret
      exact ⟨rfl, HB.out⟩
    cases z5
    · go_wp2_with fail
      go_ret
      exact ⟨rfl, HB.out⟩
    cases z6
    · go_wp2_with fail
      go_ret
      exact ⟨rfl, HB.out⟩
    go_wp2_with (first | refine load_book rfl _ rfl _ _ rfl _ K0.out rfl ?_ | refine load_book rfl _ rfl _ _ rfl _ K1.out rfl ?_)
    refine (dsameBk_c _ _ _ _ _ _ HX.out.b HY.out.b C7.out).mono ?_
    rintro q w3 ⟨rfl, hb⟩
    replace HB := hide (andthen HB.out hb)
    clear hb
    go_wp2_with fail
    go_ret
    exact ⟨rfl, HB.out⟩
  exact key _ _ _ _ _ _ _ _ rfl rfl rfl rfl rfl rfl rfl rfl
theorem dsameD_c (x y : D) (m n : DM) (b : Bool) (w : World) (h : DL w x m) (k : DL w y n) (hb : sameD x y = b) : Calls Tryz.prog 57 #[.agg (dC x m).toArray, .agg (dC y n).toArray] w (Ans w (.bool b)) := hb ▸ dsameD_any x y m n w h k
set_option maxRecDepth 100000 in
set_option maxHeartbeats 16000000 in
theorem rsameD_any (x y : D) (m n : DM) (w : World) (h : DL w x m) (k : DL w y n) :
    Calls Tryz.prog 13 #[.agg (dC x m).toArray, .agg (dC y n).toArray] w (Ans w (.bool (sameD x y))) := by
  have key : ∀ (z0 z1 z2 z3 z4 z5 z6 z7 : Bool), (x.kd == y.kd) = z0 → (x.id.1 == y.id.1) = z1 → (x.id.2 == y.id.2) = z2 → Ev.sameE x.e y.e = z3 → decide (x.cl = y.cl) = z4 → (x.pe == y.pe) = z5 → (x.n == y.n) = z6 → sameBk x.b y.b = z7 →
      Calls Tryz.prog 13 #[.agg (dC x m).toArray, .agg (dC y n).toArray] w (Ans w (.bool (z0 && ((z1 && z2) && (z3 && (z4 && (z5 && (z6 && z7)))))))) := by
    intro z0 z1 z2 z3 z4 z5 z6 z7 h0 h1 h2 h3 h4 h5 h6 h7
    have HB := hide (dtwo_below w (dC x m) (dC y n) 34 34)
    have HX := hide (h.keep HB.out)
    have HY := hide (k.keep HB.out)
    have R0 := dtwo_fst w (dC x m) (dC y n) 34 34
    have R1 := dtwo_snd w (dC x m) (dC y n) 34 34
    have S0 := dAt_of R0
    have S1 := dAt_of R1
    have a0 := range_cell R0 0 0 _ rfl rfl
    have a1 := range_cell R0 1 1 _ rfl rfl
    have a2 := range_cell R0 2 2 _ rfl rfl
    have a3 := range_cell R0 16 16 _ rfl rfl
    have a4 := range_cell R0 17 17 _ rfl rfl
    have a5 := range_cell R0 18 18 _ rfl rfl
    have b0 := range_cell R1 0 0 _ rfl rfl
    have b1 := range_cell R1 1 1 _ rfl rfl
    have b2 := range_cell R1 2 2 _ rfl rfl
    have b3 := range_cell R1 16 16 _ rfl rfl
    have b4 := range_cell R1 17 17 _ rfl rfl
    have b5 := range_cell R1 18 18 _ rfl rfl
    have E0 := hide S0.ev
    have E1 := hide S1.ev
    have K0 := hide S0.bk
    have K1 := hide S1.bk
    have C3 := hide h3
    have C4 := hide (fun W (u : S2.RowC W m.A x.cl) (v : S2.RowC W n.A y.cl) => ans_is (S2.R.equalC_any m.A n.A x.cl.length y.cl.length m.c n.c x.cl y.cl W u v rfl rfl (by have := h.cl; omega) (by have := k.cl; omega)) h4)
    have C7 := hide h7
    clear h k R0 R1 S0 S1 h3 h4 h7
    obtain ⟨kd, ⟨i, j⟩, e, cl, pe, nn, b⟩ := x
    obtain ⟨kd2, ⟨i2, j2⟩, e2, cl2, pe2, nn2, b2'⟩ := y
    dsimp only at *
    cases z0
    · go_enter Tryz.func13, Tryz.ntmps13
      go_wp2_with fail
      go_ret
      exact ⟨rfl, HB.out⟩
    cases z1
    · go_enter Tryz.func13, Tryz.ntmps13
      go_wp2_with fail
      go_ret
      exact ⟨rfl, HB.out⟩
    cases z2
    · go_enter Tryz.func13, Tryz.ntmps13
      go_wp2_with fail
      go_ret
      exact ⟨rfl, HB.out⟩
    go_enter Tryz.func13, Tryz.ntmps13
    go_wp2_with (first | refine load_event rfl _ rfl _ _ rfl _ E0.out rfl ?_ | refine load_event rfl _ rfl _ _ rfl _ E1.out rfl ?_)
    refine (resame_c _ _ _ _ _ _ HX.out.e HY.out.e C3.out).mono ?_
    rintro q w1 ⟨rfl, hb⟩
    clear a0 a1 a2 b0 b1 b2 E0 E1 h0 h1 h2
    replace HB := hide (andthen HB.out hb)
    replace HX := hide (HX.out.keep hb)
    replace HY := hide (HY.out.keep hb)
    replace K0 := hide (range_keep K0.out hb)
    replace K1 := hide (range_keep K1.out hb)
    replace a3 := cell_keepA hb a3
    replace a4 := cell_keepA hb a4
    replace a5 := cell_keepA hb a5
    replace b3 := cell_keepA hb b3
    replace b4 := cell_keepA hb b4
    replace b5 := cell_keepA hb b5
    clear hb
    cases z3
    · go_wp2_with fail
      go_ret
      exact ⟨rfl, HB.out⟩
    go_wp2_with fail
    refine (C4.out _ HX.out.c HY.out.c).mono ?_
    rintro q w2 ⟨rfl, hb⟩
    clear a3 b3
    replace HB := hide (andthen HB.out hb)
    replace HX := hide (HX.out.keep hb)
    replace HY := hide (HY.out.keep hb)
    replace K0 := hide (range_keep K0.out hb)
    replace K1 := hide (range_keep K1.out hb)
    replace a4 := cell_keepA hb a4
    replace a5 := cell_keepA hb a5
    replace b4 := cell_keepA hb b4
    replace b5 := cell_keepA hb b5
    clear hb
    cases z4
    · go_wp2_with fail
      go_ret
      exact ⟨rfl, HB.out⟩
    cases z5
    · go_wp2_with fail
      go_ret
      exact ⟨rfl, HB.out⟩
    cases z6
    · go_wp2_with fail
      go_ret
      exact ⟨rfl, HB.out⟩
    go_wp2_with (first | refine load_book rfl _ rfl _ _ rfl _ K0.out rfl ?_ | refine load_book rfl _ rfl _ _ rfl _ K1.out rfl ?_)
    refine (rsameBk_c _ _ _ _ _ _ HX.out.b HY.out.b C7.out).mono ?_
    rintro q w3 ⟨rfl, hb⟩
    replace HB := hide (andthen HB.out hb)
    clear hb
    go_wp2_with fail
    go_ret
    exact ⟨rfl, HB.out⟩
  exact key _ _ _ _ _ _ _ _ rfl rfl rfl rfl rfl rfl rfl rfl
theorem rsameD_c (x y : D) (m n : DM) (b : Bool) (w : World) (h : DL w x m) (k : DL w y n) (hb : sameD x y = b) : Calls Tryz.prog 13 #[.agg (dC x m).toArray, .agg (dC y n).toArray] w (Ans w (.bool b)) := hb ▸ rsameD_any x y m n w h k
end Go.Proofs.YtlmdceeeahnkcaaGreatDoor
namespace Go.Proofs.YtlmdceeeahnkcaaGreatDoor
open Go.RowKit Rul De Cl Go.Sort

theorem range_fst {w : World} {b f : Nat} {part post : List Value} (h : w.rangeAt b f (part ++ post)) : w.rangeAt b f part := fun j v hv => h j v (by rw [List.getElem?_append_left (List.getElem?_eq_some_iff.1 hv).1]; exact hv)
theorem sB {w W W1 : World} (hb : Below W.heap.size W W1) (h : Below w.heap.size w W) : Below w.heap.size w W1 := andthen h hb
section
variable {ops : Array Oper} {S : World → Prop} {o : Oper} {a : Act}
theorem yields_deed (hw : Region.wanted o (yielded ops a.tmps) = true) (x : Operand) (ho : o.op = .load 34 x) (b f : Nat) (hx : a.eval x = .pointer (some ⟨b, f, none⟩)) (cs : List Value) (hS : ∀ w, S w → w.rangeAt b f cs) (hl : cs.length = 35) : YieldsIf Tryz.prog ops S o (.agg cs.toArray) a :=
  yieldsIf_load_mid hw _ x ho b f hx cs _ hS Tryz.underlying34 rfl (by rw [hl]; kernel_rfl)
theorem yields_book (hw : Region.wanted o (yielded ops a.tmps) = true) (x : Operand) (ho : o.op = .load 32 x) (b f : Nat) (hx : a.eval x = .pointer (some ⟨b, f, none⟩)) (cs : List Value) (hS : ∀ w, S w → w.rangeAt b f cs) (hl : cs.length = 16) : YieldsIf Tryz.prog ops S o (.agg cs.toArray) a :=
  yieldsIf_load_mid hw _ x ho b f hx cs _ hS Tryz.underlying32 rfl (by rw [hl]; kernel_rfl)
theorem yields_event (hw : Region.wanted o (yielded ops a.tmps) = true) (x : Operand) (ho : o.op = .load 29 x) (b f : Nat) (hx : a.eval x = .pointer (some ⟨b, f, none⟩)) (cs : List Value) (hS : ∀ w, S w → w.rangeAt b f cs) (hl : cs.length = 13) : YieldsIf Tryz.prog ops S o (.agg cs.toArray) a :=
  yieldsIf_load_mid hw _ x ho b f hx cs _ hS Tryz.underlying29 rfl (by rw [hl]; kernel_rfl)
end
set_option linter.unusedSimpArgs false in
set_option maxRecDepth 100000 in
set_option maxHeartbeats 4000000 in
theorem alike_any (X c : Nat) (x y : D) (m n : DM) (b : Bool) (w : World) (hx : w.rangeAt X 0 (dC x m)) (hy : w.rangeAt X 35 (dC y n)) (h : DL w x m) (k : DL w y n) (hb : sameD x y = b) :
    Calls Tryz.prog 32 #[.slice (some ⟨X, 0, none⟩) 2 c] w (Ans w (.bool b)) := by
  have HX := hide h
  have HY := hide k
  have RX := hide hx
  have RY := hide hy
  have HS := hide hb
  have w0 : IntKind.i64.wrap 0 = 0 := rfl
  clear hx hy h k hb
  go_enter Tryz.func32, Tryz.ntmps32
  go_wp2_with fail
  refine wp_loop_rounds 2 ?_
  rw [rounds_succ]
  go_wp2_with fail
  refine wp_region_held_drew (S := fun w' => Below w.heap.size w w') (by kernel_rfl) ?_ (fun hH0 => ?_)
  · exact (start w).drew
  refine' wpAnyH_take (i := 0) (oi := _) (v := ?v0) rfl (by as_aux_lemma => kernel_rfl) (by as_aux_lemma => kernel_rfl) (by as_aux_lemma => kernel_rfl) (fun _ _ _ h => h) (Or.inl ⟨by rfl, ?y0⟩) hH0 ?r0
  case y0 => (intro w hSw; (try dsimp only at hSw); go_simp; (try with_reducible rfl))
  try simp only [Act.put, List.getElem_toArray, List.getElem_cons_succ, List.getElem_cons_zero, List.setIfInBounds_toArray, List.set_cons_zero, List.set_cons_succ]
  refine' wpAnyH_take (i := 1) (oi := _) (v := ?v1) rfl (by as_aux_lemma => kernel_rfl) (by as_aux_lemma => kernel_rfl) (by as_aux_lemma => kernel_rfl) (fun _ _ _ h => h) (Or.inl ⟨by rfl, ?y1⟩) hH0 ?r1
  case y1 => (intro w hSw; (try dsimp only at hSw); go_simp; (try with_reducible rfl))
  try simp only [Act.put, List.getElem_toArray, List.getElem_cons_succ, List.getElem_cons_zero, List.setIfInBounds_toArray, List.set_cons_zero, List.set_cons_succ]
  refine' wpAnyH_take (i := 2) (oi := _) (v := ?v2) rfl (by as_aux_lemma => kernel_rfl) (by as_aux_lemma => kernel_rfl) (by as_aux_lemma => kernel_rfl) (fun _ _ _ h => h) (Or.inl ⟨by rfl, ?y2⟩) hH0 ?r2
  case y2 => (intro w hSw; (try dsimp only at hSw); go_simp; (try with_reducible rfl))
  try simp only [Act.put, List.getElem_toArray, List.getElem_cons_succ, List.getElem_cons_zero, List.setIfInBounds_toArray, List.set_cons_zero, List.set_cons_succ]
  refine' wpAnyH_take (i := 3) (oi := _) (v := ?v3) rfl (by as_aux_lemma => kernel_rfl) (by as_aux_lemma => kernel_rfl) (by as_aux_lemma => kernel_rfl) (fun _ _ _ h => h) (Or.inl ⟨by rfl, ?y3⟩) hH0 ?r3
  case y3 => (intro w hSw; (try dsimp only at hSw); go_simp; (try with_reducible rfl))
  try simp only [Act.put, List.getElem_toArray, List.getElem_cons_succ, List.getElem_cons_zero, List.setIfInBounds_toArray, List.set_cons_zero, List.set_cons_succ]
  refine' wpAnyH_take (i := 4) (oi := _) (v := _) rfl (by as_aux_lemma => kernel_rfl) (by as_aux_lemma => kernel_rfl) (by as_aux_lemma => kernel_rfl) (fun _ _ _ h => h) (yields_deed (by rfl) _ rfl _ _ rfl _ (fun _ hS => range_keep RX.out hS) rfl) hH0 ?_
  try simp only [Act.put, List.getElem_toArray, List.getElem_cons_succ, List.getElem_cons_zero, List.setIfInBounds_toArray, List.set_cons_zero, List.set_cons_succ]
  refine' wpAnyH_take (i := 5) (oi := _) (v := ?v5) rfl (by as_aux_lemma => kernel_rfl) (by as_aux_lemma => kernel_rfl) (by as_aux_lemma => kernel_rfl) (fun _ _ _ h => h) (Or.inl ⟨by rfl, ?y5⟩) hH0 ?r5
  case y5 => (intro w hSw; (try dsimp only at hSw); go_simp; (try with_reducible rfl))
  try simp only [Act.put, List.getElem_toArray, List.getElem_cons_succ, List.getElem_cons_zero, List.setIfInBounds_toArray, List.set_cons_zero, List.set_cons_succ]
  refine' wpAnyH_take (i := 6) (oi := _) (v := ?v6) rfl (by as_aux_lemma => kernel_rfl) (by as_aux_lemma => kernel_rfl) (by as_aux_lemma => kernel_rfl) (fun _ _ _ h => h) (Or.inl ⟨by rfl, ?y6⟩) hH0 ?r6
  case y6 => (intro w hSw; (try dsimp only at hSw); go_simp; (try with_reducible rfl))
  try simp only [Act.put, List.getElem_toArray, List.getElem_cons_succ, List.getElem_cons_zero, List.setIfInBounds_toArray, List.set_cons_zero, List.set_cons_succ]
  refine' wpAnyH_take (i := 7) (oi := _) (v := ?v7) rfl (by as_aux_lemma => kernel_rfl) (by as_aux_lemma => kernel_rfl) (by as_aux_lemma => kernel_rfl) (fun _ _ _ h => h) (Or.inl ⟨by rfl, ?y7⟩) hH0 ?r7
  case y7 => (intro w hSw; (try dsimp only at hSw); go_simp; (try with_reducible rfl))
  try simp only [Act.put, List.getElem_toArray, List.getElem_cons_succ, List.getElem_cons_zero, List.setIfInBounds_toArray, List.set_cons_zero, List.set_cons_succ]
  refine' wpAnyH_take (i := 8) (oi := _) (v := _) rfl (by as_aux_lemma => kernel_rfl) (by as_aux_lemma => kernel_rfl) (by as_aux_lemma => kernel_rfl) (fun _ _ _ h => h) (yields_deed (by rfl) _ rfl _ _ rfl _ (fun _ hS => range_keep RY.out hS) rfl) hH0 ?_
  try simp only [Act.put, List.getElem_toArray, List.getElem_cons_succ, List.getElem_cons_zero, List.setIfInBounds_toArray, List.set_cons_zero, List.set_cons_succ]
  refine wpAnyH_ready (rs := [9]) (by as_aux_lemma => kernel_rfl) (by simp) ?_
  refine AllReadyH.cons (o := _) rfl (fun K hK => ?_) AllReadyH.nil
  go_simp
  refine (dsameD_c _ _ _ _ _ _ (HX.out.keep hH0) (HY.out.keep hH0) HS.out).mono ?_
  rintro _ wz ⟨rfl, hb⟩
  refine hK.out _ _ (sB hb hH0) (fun hN => ?_)
  clear hK K hH0
  have hH1 := hN
  clear hN
  try simp only [Act.put, List.getElem_toArray, List.getElem_cons_succ, List.getElem_cons_zero, List.setIfInBounds_toArray, List.set_cons_zero, List.set_cons_succ]
  refine' wpAnyH_take (i := 10) (oi := _) (v := ?v9) rfl (by as_aux_lemma => kernel_rfl) (by as_aux_lemma => kernel_rfl) (by as_aux_lemma => kernel_rfl) (fun _ _ _ h => h) (Or.inl ⟨by rfl, ?y9⟩) hH1 ?r9
  case y9 => (intro w hSw; (try dsimp only at hSw); go_simp; (try with_reducible rfl))
  try simp only [Act.put, List.getElem_toArray, List.getElem_cons_succ, List.getElem_cons_zero, List.setIfInBounds_toArray, List.set_cons_zero, List.set_cons_succ]
  refine wpAnyH_done (by as_aux_lemma => kernel_rfl) ?_ _
  have HB := hide hH1
  clear hH1
  cases b
  · go_wp2_with fail
    go_ret
    exact ⟨rfl, HB.out⟩
  go_wp2_with fail
  rw [rounds_succ]
  go_wp2_with fail
  go_ret
  exact ⟨rfl, HB.out⟩

/-- two deeds put into a row, and compared. -/
theorem dpair (W : World) (x y : D) (m n : DM) (b : Bool) (h : DL W x m) (k : DL W y n) (hb : sameD x y = b) (N : Nat) (hN : W.heap.size = N) :
    Calls Tryz.prog 32 #[.slice (some ⟨N, 0, none⟩) 2 2] (W.alloc (.cells (dC x m ++ dC y n).toArray 34)) (Ans W (.bool b)) := by
  subst hN
  have G := range_new W (dC x m ++ dC y n) 34
  have hm := more (start W) (.cells (dC x m ++ dC y n).toArray 34)
  refine (alike_any _ 2 x y m n b _ (range_fst G) (range_end G 35 (by rw [dC_len])) (h.keep hm) (k.keep hm) hb).mono ?_
  rintro q w1 ⟨rfl, hb⟩
  exact ⟨rfl, andthen hm hb⟩
end Go.Proofs.YtlmdceeeahnkcaaGreatDoor

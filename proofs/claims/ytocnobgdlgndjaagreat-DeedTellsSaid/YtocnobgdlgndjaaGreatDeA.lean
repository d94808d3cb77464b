/- Deeds and bookings in memory; laws on values of many cells that a walk loads, builds, puts into a row; ranges of cells. -/
import Derived.Test.YtocnobgdlgndjaaGreatBW9
import Derived.Test.YtocnobgdlgndjaaGreatBC1
import Derived.Test.YtocnobgdlgndjaaGreatDeId
import Derived.Deep.MidRow
import Derived.Great.BuildSlice
namespace Go.Proofs.YtocnobgdlgndjaaGreat
open Go.RowKit Rul De Cl

section
variable {ops : Array Oper} {rest : List Oper} {o : Oper} {a : Act} {w : World} {Q : Exit → Act → World → Prop}
theorem load_at (hw : Region.wanted o (yielded ops a.tmps) = true) (ty : TypeId) (x : Operand) (ho : o.op = .load ty x) (b f : Nat) (hx : a.eval x = .pointer (some ⟨b, f, none⟩)) (cs : List Value) (hc : w.rangeAt b f cs) (d : TypeDesc)
    (hu : Tryz.prog.underlying ty = some d) (hd : d.isRow = true) (hi : (Tryz.prog.info? ty).map (·.size) = some cs.length) (h : wpList Tryz.prog ops Q rest (a.put o.dst (.agg cs.toArray)) w) : wpList Tryz.prog ops Q (o :: rest) a w :=
  wpList_step fun K hK => by rw [if_pos hw]; exact wp_load_mid ty x ho b f hx cs d hc hu hd hi (hK _ _ h)
theorem load_deed (hw : Region.wanted o (yielded ops a.tmps) = true) (x : Operand) (ho : o.op = .load 34 x) (b f : Nat) (hx : a.eval x = .pointer (some ⟨b, f, none⟩)) (cs : List Value) (hc : w.rangeAt b f cs) (hl : cs.length = 35)
    (h : wpList Tryz.prog ops Q rest (a.put o.dst (.agg cs.toArray)) w) : wpList Tryz.prog ops Q (o :: rest) a w :=
  load_at hw _ x ho b f hx cs hc _ Tryz.underlying34 rfl (by rw [hl]; kernel_rfl) h
theorem load_book (hw : Region.wanted o (yielded ops a.tmps) = true) (x : Operand) (ho : o.op = .load 32 x) (b f : Nat) (hx : a.eval x = .pointer (some ⟨b, f, none⟩)) (cs : List Value) (hc : w.rangeAt b f cs) (hl : cs.length = 16)
    (h : wpList Tryz.prog ops Q rest (a.put o.dst (.agg cs.toArray)) w) : wpList Tryz.prog ops Q (o :: rest) a w :=
  load_at hw _ x ho b f hx cs hc _ Tryz.underlying32 rfl (by rw [hl]; kernel_rfl) h
theorem load_event (hw : Region.wanted o (yielded ops a.tmps) = true) (x : Operand) (ho : o.op = .load 29 x) (b f : Nat) (hx : a.eval x = .pointer (some ⟨b, f, none⟩)) (cs : List Value) (hc : w.rangeAt b f cs) (hl : cs.length = 13)
    (h : wpList Tryz.prog ops Q rest (a.put o.dst (.agg cs.toArray)) w) : wpList Tryz.prog ops Q (o :: rest) a w :=
  load_at hw _ x ho b f hx cs hc _ Tryz.underlying29 rfl (by rw [hl]; kernel_rfl) h
theorem build_at (hw : Region.wanted o (yielded ops a.tmps) = true) (t : TypeId) (parts : Array (Nat × Operand)) (ho : o.op = .build t parts) (cs : Array Value) (hb : Tryz.prog.built t (parts.map fun (i, x) => (i, a.eval x)).toList = some cs)
    (h : wpList Tryz.prog ops Q rest (a.put o.dst (.agg cs)) w) : wpList Tryz.prog ops Q (o :: rest) a w :=
  wpList_step fun K hK => by
    rw [if_pos hw]
    unfold Oper.wp execOp
    simp only [ho, Sem.run_bind, run_build w t _ _ hb, Result.andThen_ok]
    exact hK _ _ h
theorem build_two (hw : Region.wanted o (yielded ops a.tmps) = true) (t e : TypeId) (x y : Operand) (ho : o.op = .buildSlice t 2 #[(0, x), (1, y)]) (s : Nat) (u v : List Value) (hx : a.eval x = .agg u.toArray) (hy : a.eval y = .agg v.toArray)
    (hu : Tryz.prog.underlying t = some (.slice e)) (hsz : (Tryz.prog.info? e).map (·.size) = some s) (hz : ((Tryz.prog.info? e).bind (·.zero)).isSome = true) (hul : u.length = s) (hvl : v.length = s) (hs : 0 < s) (hsm : 2 * s ≤ 2 ^ 24) (N : Nat) (hN : w.heap.size = N)
    (h : wpList Tryz.prog ops Q rest (a.put o.dst (.slice (some ⟨N, 0, none⟩) 2 2)) (w.alloc (.cells (u ++ v).toArray e))) : wpList Tryz.prog ops Q (o :: rest) a w := by
  subst hN
  cases hie : Tryz.prog.info? e with
  | none => simp [hie] at hsz
  | some ie =>
    simp only [hie, Option.map_some, Option.some.injEq, Option.bind_some] at hsz hz
    obtain ⟨z, hzz⟩ := Option.isSome_iff_exists.1 hz
    refine wpList_step fun K hK => ?_
    rw [if_pos hw]
    refine wp_buildSlice t e 2 _ ho (u ++ v).toArray ie z hu hie hzz (by rw [hsz]; omega) (by rw [hsz]; omega) ?_ (hK _ _ h)
    have e1 : ((#[(0, x), (1, y)] : Array (Nat × Operand)).map fun (i, x) => (i, a.eval x)).toList = ([Value.agg u.toArray, .agg v.toArray].zipIdx 0).map fun x => (x.2, x.1) := by simp [hx, hy]
    have e2 := Great.fill_whole hs [Value.agg u.toArray, .agg v.toArray] ((Array.range (2 * s)).map (z.cells[· % z.cells.size]!)) (fun q hq => by
      simp only [List.mem_cons, List.not_mem_nil, or_false] at hq
      rcases hq with rfl | rfl <;> simp [Value.cells, hul, hvl]) (by simp)
    rw [e1, hsz, e2]
    simp [Value.cells]
theorem two_deeds (hw : Region.wanted o (yielded ops a.tmps) = true) (x y : Operand) (ho : o.op = .buildSlice 69 2 #[(0, x), (1, y)]) (u v : List Value) (hx : a.eval x = .agg u.toArray) (hy : a.eval y = .agg v.toArray) (hul : u.length = 35) (hvl : v.length = 35) (N : Nat) (hN : w.heap.size = N)
    (h : wpList Tryz.prog ops Q rest (a.put o.dst (.slice (some ⟨N, 0, none⟩) 2 2)) (w.alloc (.cells (u ++ v).toArray 34))) : wpList Tryz.prog ops Q (o :: rest) a w :=
  build_two hw _ 34 x y ho 35 u v hx hy Tryz.underlying69 (by kernel_rfl) (by kernel_rfl) hul hvl (by decide) (by decide) N hN h
end

theorem range_cell {w : World} {b f : Nat} {cs : List Value} (h : w.rangeAt b f cs) (j k : Nat) (v : Value) (hj : cs[j]? = some v) (hk : f + j = k) : w.cell? ⟨b, k, none⟩ = some v := by subst hk; exact h j v hj
theorem range_mid {w : World} {b f : Nat} {pre part post : List Value} (h : w.rangeAt b f (pre ++ (part ++ post))) (k : Nat) (hk : f + pre.length = k) : w.rangeAt b k part := fun j v hv => by
  subst hk
  have := h (pre.length + j) v (by rw [List.getElem?_append_right (Nat.le_add_right _ _), Nat.add_sub_cancel_left, List.getElem?_append_left (List.getElem?_eq_some_iff.1 hv).1]; exact hv)
  rwa [← Nat.add_assoc] at this
theorem range_end {w : World} {b f : Nat} {pre part : List Value} (h : w.rangeAt b f (pre ++ part)) (k : Nat) (hk : f + pre.length = k) : w.rangeAt b k part :=
  range_mid (post := []) (by rw [List.append_nil]; exact h) k hk
theorem range_keep {w w1 : World} {b f : Nat} {cs : List Value} (h : w.rangeAt b f cs) (hb : Below w.heap.size w w1) : w1.rangeAt b f cs := fun j v hv => cell_keepA hb (h j v hv)
theorem range_new (w : World) (cs : List Value) (t : TypeId) : (w.alloc (.cells cs.toArray t)).rangeAt w.heap.size 0 cs := fun j v hv => by
  rw [World.cell?_alloc_at _ _ _ _ rfl, Nat.zero_add]
  simpa using hv

/-- an event's cells. -/
def evC (e : Ev.E) (m : Mem) : List Value := [.string (str e.uid), .string (str e.text), .int .i64 e.st, .int .i64 e.lg, .slice m.O e.rooms.length m.oc, .int .i64 e.r.fr, .int .i64 e.r.ev, .int .i64 e.r.ct, .int .i64 e.r.un, .slice m.D e.r.ds.length m.dc, .slice m.M e.r.ms.length m.mc, .slice m.Y e.r.ys.length m.yc, .slice m.X e.ex.length m.xc]
/-- a booking's. -/
def bkC (b : B) (m : Mem) : List Value := .int .i64 b.id.1 :: .int .i64 b.id.2 :: .int .i64 b.st :: evC b.e m
/-- where a deed's lists lie. -/
structure DM where
  e : Mem
  A : Option Addr
  c : Nat
  b : Mem
/-- a deed's cells. -/
def dC (d : D) (m : DM) : List Value := .int .i64 d.kd :: .int .i64 d.id.1 :: .int .i64 d.id.2 :: (evC d.e m.e ++ (.slice m.A d.cl.length m.c :: .int .i64 d.pe :: .int .i64 d.n :: bkC d.b m.b))
theorem evC_len (e : Ev.E) (m : Mem) : (evC e m).length = 13 := rfl
theorem bkC_len (b : B) (m : Mem) : (bkC b m).length = 16 := rfl
theorem dC_len (d : D) (m : DM) : (dC d m).length = 35 := rfl
/-- a deed's lists in memory. -/
structure DL (w : World) (d : D) (m : DM) : Prop where
  e : EvL w d.e m.e
  c : S2.RowC w m.A d.cl
  cl : d.cl.length ≤ 300
  b : EvL w d.b.e m.b
theorem DL.keep {w w1 : World} {d : D} {m : DM} (h : DL w d m) (hb : Below w.heap.size w w1) : DL w1 d m := ⟨h.e.keep hb, h.c.keep hb, h.cl, h.b.keep hb⟩
/-- a deed's cells in a block: those that are asked one by one, its event's, its booking's. -/
structure DAt (w : World) (X f : Nat) (d : D) (m : DM) : Prop where
  all : w.rangeAt X f (dC d m)
  ev : w.rangeAt X (f + 3) (evC d.e m.e)
  bk : w.rangeAt X (f + 19) (bkC d.b m.b)
theorem dAt_of {w : World} {X f : Nat} {d : D} {m : DM} (h : w.rangeAt X f (dC d m)) : DAt w X f d m :=
  ⟨h, range_mid (pre := [.int .i64 d.kd, .int .i64 d.id.1, .int .i64 d.id.2]) (post := .slice m.A d.cl.length m.c :: .int .i64 d.pe :: .int .i64 d.n :: bkC d.b m.b) h _ rfl,
    range_end (pre := .int .i64 d.kd :: .int .i64 d.id.1 :: .int .i64 d.id.2 :: (evC d.e m.e ++ [.slice m.A d.cl.length m.c, .int .i64 d.pe, .int .i64 d.n])) h _ rfl⟩
theorem DAt.keep {w w1 : World} {X f : Nat} {d : D} {m : DM} (h : DAt w X f d m) (hb : Below w.heap.size w w1) : DAt w1 X f d m := dAt_of (range_keep h.all hb)
theorem esame_c (e f : Ev.E) (m n : Mem) (b : Bool) (w : World) (h : EvL w e m) (k : EvL w f n) (hb : Ev.sameE e f = b) : Calls Tryz.prog 36 #[.agg (evC e m).toArray, .agg (evC f n).toArray] w (Ans w (.bool b)) := hb ▸ eSame_any e f m n w h k
theorem eis_c (e : Ev.E) (m : Mem) (b : Bool) (w : World) (h : EvL w e m) (hb : Ev.isE e = b) : Calls Tryz.prog 23 #[.agg (evC e m).toArray] w (Ans w (.bool b)) := hb ▸ eIs_any e m w h
end Go.Proofs.YtocnobgdlgndjaaGreat

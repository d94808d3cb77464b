/- ScKn; ScRoM; ScRow of the recipes, what is needed of them. -/
import Derived.Laws.AppendOwn
import Derived.LaidMore
import Derived.Lay
import Derived.Handed
import Derived.Lib.LaidTab
import Derived.Stop.LaidErr
import Derived.Stop.Joined
import Derived.Shelf.Vars
import Derived.Test.YtlmdceeeahnkcaaGreatDoorZScRa
import Derived.Test.YtlmdceeeahnkcaaGreatDoorZDeF
import Derived.Test.YtlmdceeeahnkcaaGreatDoorZQ4
import Derived.Test.YtlmdceeeahnkcaaGreatDoorZQ5
namespace Go.Proofs.YtlmdceeeahnkcaaGreatDoor
open Go.RowKit Rul Rt Go.Sort Sc De Cl

theorem rdIs_c (d : D) (m : DM) (b : Bool) (w : World) (h : DL w d m) (hb : isD d = b) : Calls Tryz.prog 11 #[.agg (dC d m).toArray] w (Ans w (.bool b)) := by
  subst hb
  rw [isD_isR, isR_isV]
  have e : ((d.cl.length : Int) == 0) = decide (d.cl.length = 0) := by
    by_cases q : d.cl.length = 0
    · rw [decide_eq_true q, beq_iff_eq]; omega
    · rw [decide_eq_false q, beq_eq_false_iff_ne]; omega
  rw [← e]
  exact rdIs_any d m w h _ _ _ _ _ _ _ rfl rfl rfl rfl rfl rfl rfl
theorem readE_nil : readE [] = none := readE_bad (fun h => by
  have := congrArg List.length h
  unfold sld at this
  rw [List.length_append, List.length_cons] at this
  simp only [List.length_nil] at this; omega)
theorem isD_yes : isD dK = true := by decide
theorem isD_nil : isD d0 = false := by decide
theorem dl_yes (w : World) : DL w dK mD := ⟨evZ _, S2.RowC.nil _ _, Nat.zero_le _, evZ _⟩
theorem dl_nil (w : World) : DL w d0 mD := ⟨evZ _, S2.RowC.nil _ _, Nat.zero_le _, evZ _⟩
theorem lineV_yes {d : D} (h : isD d = true) : lineV d = .tuple #[.string (str (lineE d)), .int .i64 0] := by unfold lineV; rw [if_pos h]
theorem lineV_no {d : D} (h : isD d = false) : lineV d = .tuple #[.string (str []), .int .i64 14] := by unfold lineV; rw [if_neg (by rw [h]; decide)]
set_option maxRecDepth 100000 in
set_option maxHeartbeats 6400000 in
theorem known_any (w : World) (he : Env w) : Calls Tryz.prog 8 #[] w (Ans w (.bool true)) := by
  have HL1 := hide (fun w he => line_any dK mD w he (dl_yes w))
  have HL2 := hide (fun w he => line_any d0 mD w he (dl_nil w))
  have HR1 := hide (fun w he => Read_any (lineE dK) w he (by have := (line_len isD_yes).2; omega))
  have HR2 := hide (fun w he => Read_any [] w he (by decide))
  rw [lineV_yes isD_yes] at HL1
  rw [lineV_no isD_nil] at HL2
  rw [read_line isD_yes] at HR1
  rw [readE_nil] at HR2
  have HSM := hide (fun w m h => rsameD_c dK dK mD m true w (dl_yes w) h (sameD_self _))
  generalize lineE dK = L at *
  have R1 := hide (range_new w (dC dK mD) 34)
  have HB := hide (more (start w) (.cells (dC dK mD).toArray 34))
  have HE := hide (he.keep HB.out)
  clear he
  go_enter Tryz.func8, Tryz.ntmps8
  go_wp2_with (first | refine load_deed rfl _ rfl _ _ rfl _ R1.out rfl ?_ | refine store_new rfl _ _ _ rfl w _ (dC dK mD).toArray rfl rfl rfl (by kernel_rfl) (by kernel_rfl) (by kernel_rfl) ?_ | refine build_at rfl 34 _ rfl (dC dK mD).toArray (by kernel_rfl) ?_)
  refine (HL1.out _ HE.out).mono ?_
  rintro e w2 ⟨rfl, hb⟩
  replace HB := hide (andthen HB.out hb)
  replace HE := hide (HE.out.keep hb)
  replace R1 := hide (range_keep R1.out hb)
  clear hb
  go_wp2_with fail
  refine (HR1.out _ HE.out).mono ?_
  rintro e w3 ⟨hb, m, rfl, hd⟩
  replace HB := hide (andthen HB.out hb)
  replace HE := hide (HE.out.keep hb)
  replace R1 := hide (range_keep R1.out hb)
  have R4 := hide (range_new w3 (dC dK m) 34)
  have hb4 := more (start w3) (.cells (dC dK m).toArray 34)
  replace HB := hide (andthen HB.out hb4)
  replace HE := hide (HE.out.keep hb4)
  replace R1 := hide (range_keep R1.out hb4)
  have HD := hide (hd.keep hb4)
  clear hb hb4 hd
  go_wp2_with (refine store_new rfl _ _ _ rfl w3 _ (dC dK m).toArray rfl rfl rfl (by kernel_rfl) (by kernel_rfl) (by kernel_rfl) ?_)
  refine (HR2.out _ HE.out).mono ?_
  rintro e w5 ⟨hb, rfl⟩
  have hb6 := more (start w5) (.cells (dC d0 mD).toArray 34)
  have hb5 := andthen hb hb6
  replace HB := hide (andthen HB.out hb5)
  replace HE := hide (HE.out.keep hb5)
  replace R1 := hide (range_keep R1.out hb5)
  replace R4 := hide (range_keep R4.out hb5)
  replace HD := hide (HD.out.keep hb5)
  clear hb hb5 hb6
  go_wp2_with (first | refine store_new rfl _ _ _ rfl w5 _ (dC d0 mD).toArray rfl rfl rfl (by kernel_rfl) (by kernel_rfl) (by kernel_rfl) ?_ | refine build_at rfl 34 _ rfl (dC d0 mD).toArray (by kernel_rfl) ?_)
  refine (HL2.out _ HE.out).mono ?_
  rintro e w7 ⟨rfl, hb⟩
  replace HB := hide (andthen HB.out hb)
  replace R1 := hide (range_keep R1.out hb)
  replace R4 := hide (range_keep R4.out hb)
  replace HD := hide (HD.out.keep hb)
  clear hb
  go_wp2_with (first | refine load_deed rfl _ rfl _ _ rfl _ R1.out rfl ?_ | refine load_deed rfl _ rfl _ _ rfl _ R4.out rfl ?_)
  refine (HSM.out _ _ HD.out).mono ?_
  rintro e w8 ⟨rfl, hb⟩
  replace HB := hide (andthen HB.out hb)
  clear hb
  go_wp2_with fail
  go_ret
  exact ⟨rfl, HB.out⟩
end Go.Proofs.YtlmdceeeahnkcaaGreatDoor
namespace Go.Proofs.YtlmdceeeahnkcaaGreatDoor
open Go.RowKit Rul Rt Go.Sort Sc De Cl

/-- a deed and where its lists lie. -/
abbrev Qd := D × DM
def cellsQ (l : List Qd) : List Value := l.flatMap fun q => dC q.1 q.2
theorem cellsQ_append (l k : List Qd) : cellsQ (l ++ k) = cellsQ l ++ cellsQ k := by simp [cellsQ]
theorem cellsQ_get : ∀ (l : List Qd) (i j : Nat) (h : i < l.length), j < 35 → (cellsQ l)[i * 35 + j]? = (dC l[i].1 l[i].2)[j]?
  | [], i, _, h, _ => absurd h (Nat.not_lt_zero i)
  | q :: l, 0, j, _, hj => by
    show (dC q.1 q.2 ++ cellsQ l)[0 * 35 + j]? = _
    rw [Nat.zero_mul, Nat.zero_add, List.getElem?_append_left (by rw [dC_len]; exact hj)]; rfl
  | q :: l, i + 1, j, h, hj => by
    have ih := cellsQ_get l i j (by simpa using h) hj
    show (dC q.1 q.2 ++ cellsQ l)[(i + 1) * 35 + j]? = _
    rw [List.getElem?_append_right (by rw [dC_len]; omega), dC_len, show (i + 1) * 35 + j - 35 = i * 35 + j by omega, ih]
    rfl
theorem dC_one (d : D) (m : DM) : ∀ u ∈ dC d m, u.oneCell' = true := by
  intro u hu
  unfold dC bkC evC at hu
  simp only [List.mem_cons, List.mem_append, List.not_mem_nil, or_false] at hu
  rcases hu with rfl | rfl | rfl | hu | hu
  · rfl
  · rfl
  · rfl
  · rcases hu with rfl | rfl | rfl | rfl | rfl | rfl | rfl | rfl | rfl | rfl | rfl | rfl | rfl <;> rfl
  · rcases hu with rfl | rfl | rfl | rfl | rfl | rfl | rfl | rfl | rfl | rfl | rfl | rfl | rfl | rfl | rfl | rfl | rfl | rfl | rfl <;> rfl
/-- a slice that begins at A reads as the row. -/
def RowQ (w : World) (A : Option Addr) (l : List Qd) : Prop := l ≠ [] → ∃ b off, A = some ⟨b, off, none⟩ ∧ b < w.heap.size ∧ ∀ i (h : i < l.length), w.rangeAt b (off + i * 35) (dC l[i].1 l[i].2)
theorem RowQ.keep {w w1 : World} {A : Option Addr} {l : List Qd} (h : RowQ w A l) (hb : Go.RowKit.Below w.heap.size w w1) : RowQ w1 A l := fun hn => by
  obtain ⟨b, o, e, hl, hc⟩ := h hn
  exact ⟨b, o, e, Nat.lt_of_lt_of_le hl hb.size, fun i hi => range_keep (hc i hi) hb⟩
abbrev OwnQ (w : World) (B : Nat) (v : Value) (l : List Qd) : Prop := w.ownsRow B 34 35 v l.length (cellsQ l)
theorem ownQ_nil (w : World) (B : Nat) : OwnQ w B (.slice none 0 0) [] := World.ownsRow_nil _ _ _ _
theorem OwnQ.keep {w w1 : World} {B : Nat} {v : Value} {l : List Qd} (h : OwnQ w B v l) (hb : Go.RowKit.Below w.heap.size w w1) : OwnQ w1 B v l :=
  World.ownsRow.kept (row := none) h ⟨hb.os, hb.tape, hb.output, hb.size, fun i hi _ => hb.block i hi⟩ (by cases v.ownBlock <;> simp)
theorem OwnQ.at_ {w : World} {B n c : Nat} {A : Option Addr} {l : List Qd} (h : OwnQ w B (.slice A n c) l) (i : Nat) (hi : i < l.length) : ∃ g, A = some ⟨g, 0, none⟩ ∧ n ≤ c ∧ w.rangeAt g (i * 35) (dC l[i].1 l[i].2) := by
  rcases h.2 with ⟨hv, hn⟩ | ⟨g, cap, cur, hv, hb, hg, hnc, hcm, hcs, htake⟩
  · omega
  · injection hv with h1 h2 h3
    subst h1 h2 h3
    refine ⟨g, rfl, hnc, fun j u hu => ?_⟩
    have hj : j < 35 := by have := (List.getElem?_eq_some_iff.1 hu).1; rwa [dC_len] at this
    have hc := World.ownsRow.cells h (g := g) rfl (i * 35 + j) u (by rw [cellsQ_get l i j hi hj]; exact hu)
    rw [plus] at hc
    exact hc
theorem deed_info : (Tryz.prog.info? 34).map (fun i => (i.zero, i.size, i.bytes)) = some (some (.agg (dC d0 mD).toArray), 35, 488) := by kernel_rfl
theorem build_one {ops : Array Oper} {rest : List Oper} {o : Oper} {a : Act} {w : World} {Q : Exit → Act → World → Prop} (hw : Region.wanted o (yielded ops a.tmps) = true) (x : Operand) (ho : o.op = .buildSlice 47 1 #[(0, x)]) (u : List Value) (hx : a.eval x = .agg u.toArray) (hul : u.length = 35) (N : Nat) (hN : w.heap.size = N)
    (h : wpList Tryz.prog ops Q rest (a.put o.dst (.slice (some ⟨N, 0, none⟩) 1 1)) (w.alloc (.cells u.toArray 34))) : wpList Tryz.prog ops Q (o :: rest) a w := by
  subst hN
  obtain ⟨i0, hi, hz0, hz1, hz2⟩ := info_parts deed_info
  refine wpList_step fun K hK => ?_
  rw [if_pos hw]
  refine wp_buildSlice 47 34 1 _ ho u.toArray i0 _ Tryz.underlying47 hi hz0 (by rw [hz1]; decide) (by rw [hz1]; decide) ?_ (hK _ _ h)
  have e1 : ((#[(0, x)] : Array (Nat × Operand)).map fun (i, x) => (i, a.eval x)).toList = ([Value.agg u.toArray].zipIdx 0).map fun x => (x.2, x.1) := by simp [hx]
  have e2 := Great.fill_whole (s := 35) (by decide) [Value.agg u.toArray] ((Array.range (1 * 35)).map ((Value.agg (dC d0 mD).toArray).cells[· % (Value.agg (dC d0 mD).toArray).cells.size]!)) (fun q hq => by
    simp only [List.mem_cons, List.not_mem_nil, or_false] at hq
    subst hq; simp [Value.cells, hul]) (by simp)
  rw [e1, hz1, e2]
  simp [Value.cells]
theorem wp_oneQ {ops : Array Oper} {rest : List Oper} {o : Oper} {a : Act} {Q : Exit → Act → World → Prop} {w : World} {B : Nat} {v : Value} {l : List Qd} {p : Qd} (hgd : o.guard = none) (s x : Operand)
    (ho : o.op = .call { callee := .builtin .append, args := #[s, x], argTypes := #[47, 47] }) (hs : a.eval s = v) {N : Nat} (hN : w.heap.size = N) (hx : a.eval x = .slice (some ⟨N, 0, none⟩) 1 1)
    (hown : OwnQ w B v l) (hB : B ≤ w.heap.size) (hn : l.length ≤ 1000)
    (h : ∀ v' w', OwnQ w' B v' (l ++ [p]) → Go.RowKit.Below B w w' → wpList Tryz.prog ops Q rest (a.put o.dst v') w') :
    wpList Tryz.prog ops Q (o :: rest) a (w.alloc (.cells (dC p.1 p.2).toArray 34)) := by
  subst hN
  obtain ⟨i0, hi, hz0, hz1, hz2⟩ := info_parts deed_info
  refine wpList_append_own _ hgd s x 47 ho B 34 i0 _ 35 488 Tryz.underlying47 hi hz0 hz1 hz2 rfl (by decide) v l.length (cellsQ l) hs (hown.alloc _) ⟨w.heap.size, 0, none⟩ 1 1 (dC p.1 p.2) hx (by rw [dC_len]) ?_ (dC_one _ _) ?_ ?_ ?_ ?_
  · intro j u hu
    rw [plus, World.cell?_alloc_at _ _ _ _ rfl]
    exact (by simpa using hu)
  · unfold maxLen; omega
  · omega
  · simp only [World.size_alloc]; omega
  · intro v' w' h2 h3 _
    refine h v' w' (by rw [OwnQ, cellsQ_append, List.length_append]; simpa [cellsQ] using h2) (((Below.refl B w).alloc hB _).grown h3 (by simp only [World.size_alloc]; omega) fun j hj => (hown.lt j hj).1)

/-- lines, each with its end. -/
def flatL (P : List Qd) : Tx := P.flatMap fun q => lineE q.1 ++ [10]
theorem flatL_snoc (P : List Qd) (q : Qd) : flatL (P ++ [q]) = flatL P ++ lineE q.1 ++ [10] := by simp [flatL]
theorem flatL_cons (q : Qd) (P : List Qd) : flatL (q :: P) = lineE q.1 ++ 10 :: flatL P := by simp [flatL]
theorem flatL_app (P R : List Qd) : flatL (P ++ R) = flatL P ++ flatL R := by simp [flatL]
theorem flatL_len : ∀ (P : List Qd), (∀ q ∈ P, isD q.1 = true) → (flatL P).length ≤ P.length * 8001
  | [], _ => Nat.zero_le _
  | q :: P, h => by
    have h1 := (line_len (h q (by simp))).2
    have h2 := flatL_len P fun x hx => h x (by simp [hx])
    rw [flatL_cons, List.length_append, List.length_cons, List.length_cons, Nat.succ_mul]; omega
theorem flatL_at (P : List Qd) (a : Nat) (h : a < P.length) : flatL P = flatL (P.take a) ++ (lineE P[a].1 ++ 10 :: flatL (P.drop (a + 1))) := by
  rw [← flatL_cons, List.getElem_cons_drop, ← flatL_app, List.take_append_drop]
theorem flatL_take (P : List Qd) (a : Nat) (h : a < P.length) : (flatL (P.take (a + 1))).length = (flatL (P.take a)).length + (lineE P[a].1).length + 1 := by
  rw [List.take_add_one, List.getElem?_eq_getElem h, Option.toList_some, flatL_snoc]; simp; omega
end Go.Proofs.YtlmdceeeahnkcaaGreatDoor
namespace Go.Proofs.YtlmdceeeahnkcaaGreatDoor
open Go.ChangeShapes Go.WideShapes Go.ChangeAt Go.RowKit Go.Joins Rul De

/-- the tables that the rows list. -/
def tabs : List (String × DataW Unit) := Rows.scribeBackRow.laid
theorem pow_type : (Tryz.prog.globals[0]?).map (·.type) = some 156 := by kernel_rfl
theorem pow_cellsE : Tryz.prog.cellsOf 73 = 1 := by kernel_rfl
theorem pow_cellsT : Tryz.prog.cellsOf 156 = 20 := by kernel_rfl
theorem pow_tab : (Rows.laid_internal_strconv_uint64pow10 : DataW Unit) = Lib.tabData .u64 Lib.pow10Tab := by kernel_rfl
theorem tab_of_laid {W : World} (h : laidMetH Tryz.prog tabs W) : Tab W := by
  rw [MakeChecks.laidMetH_plain _ _ _ (by kernel_rfl)] at h
  have h2 : ∃ r, laidMet Tryz.prog (("internal/strconv.uint64pow10", Lib.tabData .u64 Lib.pow10Tab) :: r) W := by
    rw [← pow_tab]
    exact ⟨_, laidMet.tail (laidMet.tail h)⟩
  obtain ⟨r, h2⟩ := h2
  exact Lib.tabIs_of_head tab_global pow_type Tryz.underlying156 Tryz.underlying73 pow_cellsE pow_cellsT h2
theorem err_star : "*" ++ "errors.errorString" = "*errors.errorString" := by decide
theorem err_row (u : TypeId) (h : Tryz.prog.typeName? 3 u = some "*errors.errorString") : u = 225 :=
  typeName_ptr_named (nm := "errors.errorString") (by rw [err_star]; kernel_rfl) (by kernel_rfl) (by decide) u (by rw [err_star]; exact h)
theorem err_cells : Tryz.prog.cellsOf 227 = 1 := by kernel_rfl
theorem str_cells : Tryz.prog.cellsOf 9 = 1 := by kernel_rfl
theorem rng_is : (Rows.laid_strconv_ErrRange : DataW Unit) = .iface "*errors.errorString" (.ptr (.agg [.lit (.string [118, 97, 108, 117, 101, 32, 111, 117, 116, 32, 111, 102, 32, 114, 97, 110, 103, 101])])) := rfl
theorem syn_is : (Rows.laid_strconv_ErrSyntax : DataW Unit) = .iface "*errors.errorString" (.ptr (.agg [.lit (.string [105, 110, 118, 97, 108, 105, 100, 32, 115, 121, 110, 116, 97, 120])])) := rfl
theorem g_rng : Tryz.prog.globalNamed "strconv.ErrRange" = some 5 := by kernel_rfl
theorem g_syn : Tryz.prog.globalNamed "strconv.ErrSyntax" = some 4 := by kernel_rfl
theorem rng_of {W : World} (h : laidMetH Tryz.prog tabs W) : ∃ ev, W.cell? ⟨5, 0, none⟩ = some ev ∧ (ev = .nilIface ∨ ∃ te pe, ev = .iface te pe) := by
  rw [MakeChecks.laidMetH_plain _ _ _ (by kernel_rfl)] at h
  have h2 : ∃ r, laidMet Tryz.prog (("strconv.ErrRange", .iface "*errors.errorString" (.ptr (.agg [.lit (.string [118, 97, 108, 117, 101, 32, 111, 117, 116, 32, 111, 102, 32, 114, 97, 110, 103, 101])]))) :: r) W := by
    rw [← rng_is]
    exact ⟨_, laidMet.tail (laidMet.tail (laidMet.tail h))⟩
  obtain ⟨r, h2⟩ := h2
  obtain ⟨a, _, hv, _⟩ := laid_sentinel h2 g_rng (ti := 133) (by kernel_rfl) Tryz.underlying133 err_row Tryz.underlying225 Tryz.underlying227 rfl rfl Tryz.underlying9 err_cells str_cells
  exact ⟨_, by simpa using World.var?_cell g_rng hv 0, Or.inr ⟨_, _, rfl⟩⟩
theorem syn_of {W : World} (h : laidMetH Tryz.prog tabs W) : ∃ ev, W.cell? ⟨4, 0, none⟩ = some ev ∧ (ev = .nilIface ∨ ∃ te pe, ev = .iface te pe) := by
  rw [MakeChecks.laidMetH_plain _ _ _ (by kernel_rfl)] at h
  have h2 : ∃ r, laidMet Tryz.prog (("strconv.ErrSyntax", .iface "*errors.errorString" (.ptr (.agg [.lit (.string [105, 110, 118, 97, 108, 105, 100, 32, 115, 121, 110, 116, 97, 120])]))) :: r) W := by
    rw [← syn_is]
    exact ⟨_, laidMet.tail (laidMet.tail (laidMet.tail (laidMet.tail h)))⟩
  obtain ⟨r, h2⟩ := h2
  obtain ⟨a, _, hv, _⟩ := laid_sentinel h2 g_syn (ti := 133) (by kernel_rfl) Tryz.underlying133 err_row Tryz.underlying225 Tryz.underlying227 rfl rfl Tryz.underlying9 err_cells str_cells
  exact ⟨_, by simpa using World.var?_cell g_syn hv 0, Or.inr ⟨_, _, rfl⟩⟩
theorem env_of {W : World} (h : laidMetH Tryz.prog tabs W) (hs : W.ShapedOpen Tryz.prog) : Env W :=
  ⟨tab_of_laid h, cell_of_shapedOpen_int (zero := #[.int .i64 0]) (t := 3) hs (of_decide_eq_true (by kernel_rfl)) (by kernel_rfl) rfl (by kernel_rfl) (by kernel_rfl) Tryz.underlying3,
    syn_of h, rng_of h⟩
theorem door_met (os : Os) (args : Array Value) : laidMetH Tryz.prog tabs ((World.laidAll Tryz.prog os tabs).forCall (fun _ _ => 0) ⟨#[], args, []⟩).memory := by
  rw [MakeChecks.laidMetH_plain _ _ _ (by kernel_rfl)]
  exact laidMet_laidAll _ (by kernel_rfl) (by kernel_rfl)
/-- a row whose contract asks of the listed tables and of the world's shape. -/
theorem returns_laid {H : Type} {enc : TypeId × Value → H} {a : Assume} {C : Checked} {os : Os} {f : FuncId} {fn : Func} {s : ChangeSpec} {apart fresh handsOn again : Bool} {laid : List (String × DataW Unit)}
    (own : ownKnob C.prog.godebug = none) (started : os.Started) (noInit : C.prog.inits.idxOf? f = none) (hfn : C.prog.funcs[f]? = some fn)
    (witness : ∃ (w : World) (tape : Tape) (i : Input), w.os = os ∧ (w.forCall tape i).Shaped C.prog ∧ i.vars = [] ∧ Input.okWide C.prog (w.forCall tape i) .any w.heap.size f i ∧
      ((s.pre enc C.prog fn [] apart (w.forCall tape i).memory i.args ∧ laidMetH C.prog laid (w.forCall tape i).memory) ∧ sizedMet enc C.prog fn (OpenSpec.ofChange s) apart (w.forCall tape i).memory i.args) ∧ a.holds C.prog (lone (Frame.enter C.prog f i.args .normal) [] (w.forCall tape i)))
    (contract : ∀ (W : World) (base : Nat) (args : Array Value) (ds gs : List (DataW H)) (before : List MemPlace),
      (∀ (j : Nat) t v, fn.params[j]? = some t → args[j]? = some v → Value.okWide C.prog W .any base t v) →
      DataW.Whole enc C.prog fn.params.toList s.vars apart W args.toList ds gs before → laidMetH C.prog laid W → W.ShapedOpen C.prog →
      Calls C.prog f args W fun e W' => ∃ v, e = .returned v ∧ s.post enc C.prog fn apart fresh handsOn again W args v W') :
    ReturnsInHanded a C os f .any (fun w args => (s.pre enc C.prog fn [] apart w args ∧ laidMetH C.prog laid w) ∧ sizedMet enc C.prog fn (OpenSpec.ofChange s) apart w args) (s.post enc C.prog fn apart fresh handsOn again) := by
  refine returnsInHanded_of_calls own started noInit witness ?_
  intro w tape i _ hsh _ hok hpre _
  obtain ⟨_, _, _, fn', hfn', _, _, _, _, hval⟩ := hok
  obtain rfl : fn' = fn := Option.some.inj (hfn'.symm.trans hfn)
  obtain ⟨⟨⟨ds, gs, before, hw, _⟩, hx⟩, _⟩ := hpre
  have hx' : laidMetH C.prog laid (w.forCall tape i).memory := hx
  refine (contract (w.forCall tape i) w.heap.size i.args ds gs before hval (DataW.Whole.of_heap (w' := w.forCall tape i) (by rfl) hw) (laidMetH.of_heap (w' := w.forCall tape i) (by rfl) hx') hsh).mono fun e W' ⟨v, he, hp⟩ => ?_
  subst he
  exact ChangeSpec.post_blind hp

section
variable {H : Type} {enc : TypeId × Value → H}
set_option maxRecDepth 100000 in
theorem open_deeds {W : World} {A : Option Addr} {n c base : Nat} {sp : Nat → Bool} {hd : Bool} {d : DataW H} {p : List MemPlace} (h : DataW.Trod enc Tryz.prog W base sp hd 47 (.slice A n c) d p) :
    ∃ l : List Qd, n = l.length ∧ l.length ≤ maxLen ∧ RowQ W A l ∧ ∀ q ∈ l, DO W q.1 q.2 := by
  obtain ⟨fuel, hf⟩ := h
  rcases Go.Deep.open_slice Tryz.underlying47 hf with ⟨hcs, _⟩ | ⟨a, len, cap, m, k, D, Pl, hcs, hb, hl, hm, hmm, _, hx⟩
  · simp [Value.cells] at hcs
    obtain ⟨rfl, rfl, rfl⟩ := hcs
    exact ⟨[], rfl, Nat.zero_le _, fun hne => absurd rfl hne, fun q hq => absurd hq List.not_mem_nil⟩
  · simp [Value.cells] at hcs
    obtain ⟨rfl, rfl, rfl⟩ := hcs
    have hnm : n ≤ m := by rw [hmm]; split <;> omega
    have each : ∀ i, i < m → ∃ q : Qd, (∀ j, j < 35 → W.cell? (a.add (i * 35 + j)) = (dC q.1 q.2)[j]?) ∧ DO W q.1 q.2 := by
      intro i hi
      obtain ⟨cs', h1, h2⟩ := hx i hi
      rw [deed_cells] at h1
      obtain ⟨_, hlen, hcell⟩ := World.cells?_some h1
      have hsz : cs'.toArray.size = 35 := by simpa using hlen
      obtain ⟨k0, k1, k2, k3, k4, k5, k6, k7, k8, k9, k10, k11, k12, k13, k14, k15, k16, k17, k18, k19, k20, k21, k22, k23, k24, k25, k26, k27, k28, k29, k30, k31, k32, k33, k34, hcs'⟩ := array35 hsz
      obtain rfl : cs' = [k0, k1, k2, k3, k4, k5, k6, k7, k8, k9, k10, k11, k12, k13, k14, k15, k16, k17, k18, k19, k20, k21, k22, k23, k24, k25, k26, k27, k28, k29, k30, k31, k32, k33, k34] := congrArg Array.toList hcs'
      obtain ⟨e, m, hc, hr⟩ := deed_of_trod h2
      refine ⟨(e, m), fun j hj => ?_, hr⟩
      have := hcell j hj
      rw [Go.Deep.add_add] at this
      rw [this, ← hc]
    haveI : Inhabited Qd := ⟨(⟨0, (0, 0), e0, [], 0, 0, ⟨(0, 0), 0, e0⟩⟩, ⟨⟨none, 0, none, 0, none, 0, none, 0, none, 0⟩, none, 0, ⟨none, 0, none, 0, none, 0, none, 0, none, 0⟩⟩)⟩
    obtain ⟨q, hq⟩ := Go.Deep.choose_lt each
    refine ⟨(List.range n).map q, by simp, by simp; omega, fun hne => ?_, fun z hz => ?_⟩
    · have hn : 0 < n := by
        rcases Nat.eq_zero_or_pos n with h0 | h0
        · subst h0; simp at hne
        · exact h0
      obtain ⟨b, off, spot⟩ := a
      have c0 := (hq 0 (by omega)).1 0 (by omega)
      rw [show (dC (q 0).1 (q 0).2)[0]? = some (.int .i64 (q 0).1.kd) from rfl] at c0
      have hspot : spot = none := by simpa [Addr.add] using World.cell?_spot c0
      subst hspot
      have hb : b < W.heap.size := by
        have := World.block_lt_of_cell? _ _ c0
        simpa [Addr.add] using this
      refine ⟨b, off, rfl, hb, fun i hi' => ?_⟩
      have hin : i < n := by simpa using hi'
      intro j v hv
      have hj : j < 35 := by
        rcases Nat.lt_or_ge j 35 with g | g
        · exact g
        · rw [List.getElem?_eq_none (by rw [dC_len]; exact g)] at hv; cases hv
      have g := (hq i (by omega)).1 j hj
      rw [add_flat] at g
      rw [show off + i * 35 + j = off + (i * 35 + j) by omega, g, ← hv]
      simp
    · obtain ⟨i, hi, rfl⟩ := List.mem_map.1 hz
      exact (hq i (by have := List.mem_range.1 hi; omega)).2
end

end Go.Proofs.YtlmdceeeahnkcaaGreatDoor

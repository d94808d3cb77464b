/- ScR; ScRE; ScRL of the recipes, what is needed of them. -/
import Derived.Laws.OwnMore
import Derived.Maps.AppendAt
import Derived.Deep.MidRow
import Derived.Test.YtlmdceeeahnkcaaGreatDoorZQ5
import Derived.Test.YtlmdceeeahnkcaaGreatDoorZQ2
namespace Go.Proofs.YtlmdceeeahnkcaaGreatDoor
open Go.RowKit Rul Rt Go.Sort Sc

/-- what a reader's steps leave as it was: all blocks but its own, and of its own all cells but one. -/
structure FX (X f : Nat) (w w' : World) : Prop where
  g : w.grownBy w' (some X)
  cell : ∀ j, j ≠ f → w'.cell? ⟨X, j, none⟩ = w.cell? ⟨X, j, none⟩
  frz : ∀ j, w'.frozen? ⟨X, j, none⟩ = w.frozen? ⟨X, j, none⟩
theorem FX.refl (X f : Nat) (w : World) : FX X f w w := ⟨⟨rfl, rfl, rfl, Nat.le_refl _, fun _ _ _ => rfl⟩, fun _ _ => rfl, fun _ => rfl⟩
theorem FX.size {X f : Nat} {a b : World} (h : FX X f a b) : a.heap.size ≤ b.heap.size := h.g.size
theorem FX.trans {X f : Nat} {a b c : World} (h : FX X f a b) (k : FX X f b c) : FX X f a c :=
  ⟨⟨k.g.os.trans h.g.os, k.g.tape.trans h.g.tape, k.g.output.trans h.g.output, Nat.le_trans h.g.size k.g.size, fun i hi hx => (k.g.block i (Nat.lt_of_lt_of_le hi h.g.size) hx).trans (h.g.block i hi hx)⟩, fun j hj => (k.cell j hj).trans (h.cell j hj), fun j => (k.frz j).trans (h.frz j)⟩
theorem FX.of {X f : Nat} {w w' : World} (h : Below w.heap.size w w') (hX : X < w.heap.size) : FX X f w w' :=
  ⟨⟨h.os, h.tape, h.output, h.size, fun k hk _ => h.block k hk⟩, fun j _ => h.cell (p := ⟨X, j, none⟩) hX, fun j => h.frozen (p := ⟨X, j, none⟩) hX⟩
theorem FX.set (X f : Nat) (w : World) (v : Value) : FX X f w (w.setCell ⟨X, f, none⟩ v) :=
  ⟨⟨rfl, rfl, rfl, by simp [World.setCell], fun k _ hx => Below.heap_setCell _ _ _ _ (fun e => hx (by rw [e]))⟩, fun j hj => World.cell?_setCell_other _ _ _ _ (by intro e; injection e with _ e; omega), fun j => World.frozen?_setCell _ _ _ _⟩
theorem FX.below {B X f : Nat} {w w' : World} (h : FX X f w w') (hB : B ≤ X) (hs : B ≤ w.heap.size) : Below B w w' :=
  ⟨h.g.os, h.g.tape, h.g.output, h.g.size, fun k hk => h.g.block k (by omega) (by intro e; injection e with e; omega)⟩
/-- the reader's field: at the place f of the block X. -/
structure Rd (B X f : Nat) (w : World) (t : Tx) : Prop where
  env : EnvB B w
  le : B ≤ X
  lt : X < w.heap.size
  at_ : w.cell? ⟨X, f, none⟩ = some (.string (str t))
  free : w.frozen? ⟨X, f, none⟩ = false
  len : t.length ≤ 20000
theorem Rd.big {B X f : Nat} {w : World} {t : Tx} (h : Rd B X f w t) : B ≤ w.heap.size := Nat.le_of_lt (Nat.lt_of_le_of_lt h.le h.lt)
theorem Rd.on {B X f : Nat} {w w' : World} {t s : Tx} (h : Rd B X f w t) (hf : FX X f w w') (hc : w'.cell? ⟨X, f, none⟩ = some (.string (str s))) (hs : s.length ≤ t.length) : Rd B X f w' s :=
  ⟨h.env.on (hf.below h.le h.big), h.le, Nat.lt_of_lt_of_le h.lt hf.size, hc, (hf.frz f).trans h.free, Nat.le_trans hs h.len⟩
theorem Rd.keep {B X f : Nat} {w w' : World} {t : Tx} (h : Rd B X f w t) (hb : Below w.heap.size w w') : Rd B X f w' t :=
  h.on (FX.of hb h.lt) (cell_keep hb h.at_) (Nat.le_refl _)
/-- a value is read, and the text that is left. -/
def RdS (B X f : Nat) (w : World) (v : Value) (t : Tx) (e : Ending) (w' : World) : Prop := e = .returned v ∧ FX X f w w' ∧ Rd B X f w' t
set_option maxRecDepth 100000 in
set_option maxHeartbeats 1600000 in
theorem number_any (B X f : Nat) (t : Tx) (w : World) (h : Rd B X f w t) :
    Calls Tryz.prog 73 #[.pointer (some ⟨X, f, none⟩)] w (RdS B X f w (.int .i64 (num t).1) (num t).2) := by
  have HR := hide h
  have hc := h.at_
  have hfz := h.free
  have hl := h.len
  have HC := hide (fun w h => cutB_all 32 (str [32]) rfl t w h (by omega))
  have HA := hide (fun w h => atoi_all (cw t) w h (by have := cw_le t; omega))
  have HL := hide (cr_le t)
  have E1 : (Lib.cut t [32]).1 = cw t := rfl
  have E2 : (Lib.cut t [32]).2.1 = cr t := rfl
  have HV := hide (show nv (cw t) = (num t).1 from rfl)
  have HW := hide (show cr t = (num t).2 from rfl)
  rw [E1, E2] at HC
  generalize (Lib.cut t [32]).2.2 = g at HC
  generalize cw t = a at *
  generalize cr t = b at *
  clear h hl E1 E2
  go_enter Tryz.func73, Tryz.ntmps73
  go_wp2_with fail
  refine (HC.out _ HR.out.env.env).mono ?_
  rintro e w1 ⟨rfl, hb⟩
  have HB := hide hb
  replace hc := cell_keep hb hc
  replace hfz := (hb.frozen (p := ⟨X, f, none⟩) HR.out.lt).trans hfz
  clear hb
  go_wp2_with fail
  have HF2 := hide (FX.trans (FX.of HB.out HR.out.lt) (FX.set X f w1 (.string (str b))))
  have HR2 := hide (HR.out.on HF2.out (World.cell?_setCell_same _ _ _ hc) HL.out)
  clear hc hfz
  generalize w1.setCell ⟨X, f, none⟩ (.string (str b)) = W2 at HF2 HR2 ⊢
  refine (HA.out _ HR2.out.env.env).mono ?_
  rintro e w3 ⟨hb, er, rfl, her⟩
  have HF3 := hide (HF2.out.trans (FX.of hb HR2.out.lt))
  have HR3 := hide (HR2.out.keep hb)
  clear hb
  rcases her with rfl | ⟨te, pe, rfl⟩
  · go_wp2_with fail
    go_ret
    exact ⟨by rw [← HV.out]; rfl, HF3.out, HW.out ▸ HR3.out⟩
  · go_wp2_with fail
    go_ret
    exact ⟨by rw [← HV.out]; rfl, HF3.out, HW.out ▸ HR3.out⟩
end Go.Proofs.YtlmdceeeahnkcaaGreatDoor
namespace Go.Proofs.YtlmdceeeahnkcaaGreatDoor
open Go.RowKit Rul Rt Go.Sort Sc De Cl

/-- a value of many cells that a call hands back out of a block of its own. -/
theorem results_mid {fn : Func} {p : Tmp} {ty : TypeId} (h : fn.results = #[.cell p ty]) (tmps : Array Value) (w : World) (b : Nat) (cs : List Value) (d : TypeDesc) (hp : tmps.getD p undef = .pointer (some ⟨b, 0, none⟩)) (hc : w.rangeAt b 0 cs)
    (hu : Tryz.prog.underlying ty = some d) (hd : d.isRow = true) (hi : (Tryz.prog.info? ty).map (·.size) = some cs.length) : (results fn tmps).run Tryz.prog w = .ok (.agg cs.toArray) w := by
  have hp' : tmps[p]?.getD undef = .pointer (some ⟨b, 0, none⟩) := by simpa using hp
  simp [results, h, hp', asAddr, run_loadVar_mid w b 0 ty cs d hc hu hd hi]
theorem store_mid {ops : Array Oper} {rest : List Oper} {o : Oper} {a : Act} {w : World} {Q : Exit → Act → World → Prop} (hw : Region.wanted o (yielded ops a.tmps) = true) (ty : TypeId) (x y : Operand) (ho : o.op = .store ty x y)
    (b f : Nat) (cells : Array Value) (hx : a.eval x = .pointer (some ⟨b, f, none⟩)) (hy : a.eval y = .agg cells) (ht : w.there b f cells.size) (hi : (Tryz.prog.info? ty).map (·.size) = some cells.size) (h1 : cells.all (·.oneCell') = true)
    (h : wpList Tryz.prog ops Q rest (a.put o.dst undef) (w.setCells b f cells.toList)) : wpList Tryz.prog ops Q (o :: rest) a w :=
  wpList_step fun K hK => by rw [if_pos hw]; exact wp_store_mid ty x y ho b f cells hx hy ht hi h1 (hK _ _ h)
theorem there_new (w : World) (cs : Array Value) (t : TypeId) (n : Nat) (hn : n ≤ cs.size) : (w.alloc (.cells cs t)).there w.heap.size 0 n := fun j hj => by
  rw [Nat.zero_add]
  refine ⟨?_, World.frozen?_alloc_at _ _ _ _ rfl⟩
  rw [World.cell?_alloc_at _ _ _ _ rfl, Array.getElem?_eq_getElem (by omega)]; rfl
/-- cells of a block that may be written are kept. -/
theorem there_fx {X f : Nat} {w w1 : World} {b o n : Nat} (h : w.there b o n) (hf : FX X f w w1) (hb : b < w.heap.size) (hne : b ≠ X) : w1.there b o n := fun j hj => by
  have e := hf.g.block b hb (fun e => hne (Option.some.inj e))
  have h1 := h j hj
  rw [World.cell?_of_block (a := ⟨b, o + j, none⟩) e, World.frozen?_of_block (a := ⟨b, o + j, none⟩) e]
  exact h1
theorem below_setCells {B : Nat} {a : World} : ∀ (vs : List Value) {w : World} (b o : Nat), Go.RowKit.Below B a w → B ≤ b → Go.RowKit.Below B a (w.setCells b o vs)
  | [], _, _, _, h, _ => h
  | v :: vs, w, b, o, h, hb => below_setCells vs (w := w.setCell ⟨b, o, none⟩ v) b (o + 1) (Below.setCell h (p := ⟨b, o, none⟩) hb v) hb
/-- what is done behind all that was there at the beginning. -/
theorem FX.low {X f : Nat} {a w w1 : World} (h : FX X f a w) (hb : Go.RowKit.Below a.heap.size w w1) (hX : X < a.heap.size) : FX X f a w1 :=
  ⟨⟨hb.os.trans h.g.os, hb.tape.trans h.g.tape, hb.output.trans h.g.output, Nat.le_trans h.g.size hb.size, fun k hk hx => (hb.block k hk).trans (h.g.block k hk hx)⟩, fun j hj => (hb.cell (p := ⟨X, j, none⟩) hX).trans (h.cell j hj), fun j => (hb.frozen (p := ⟨X, j, none⟩) hX).trans (h.frz j)⟩
theorem Rd.low {B X f S : Nat} {w w1 : World} {t : Tx} (h : Rd B X f w t) (hb : Go.RowKit.Below S w w1) (hX : X < S) : Rd B X f w1 t :=
  ⟨h.env.on (hb.mono (by have := h.le; omega)), h.le, Nat.lt_of_lt_of_le h.lt hb.size, (hb.cell (p := ⟨X, f, none⟩) hX).trans h.at_, (hb.frozen (p := ⟨X, f, none⟩) hX).trans h.free, h.len⟩
theorem FX.put {X f b o : Nat} {a w : World} (h : FX X f a w) (vs : List Value) (hb : a.heap.size ≤ b) (hX : X < a.heap.size) : FX X f a (w.setCells b o vs) :=
  h.low (below_setCells vs b o (Below.refl _ _) hb) hX
set_option maxRecDepth 100000 in
set_option maxHeartbeats 800000 in
theorem letter_any (B X f : Nat) (t : Tx) (w : World) (h : Rd B X f w t) :
    Calls Tryz.prog 133 #[.pointer (some ⟨X, f, none⟩)] w (RdS B X f w (.int .u8 (((ltr t).1.toNat : Nat) : Int)) (ltr t).2) := by
  have HN := hide (number_any B X f t w h)
  have HV := hide (show (num t).1 % 256 = (((ltr t).1.toNat : Nat) : Int) by
    unfold ltr; simp only [UInt8.toNat_ofNat']; omega)
  have HW := hide (show (num t).2 = (ltr t).2 from rfl)
  generalize num t = nt at *
  obtain ⟨n, s⟩ := nt
  dsimp only at *
  clear h
  go_enter Tryz.func133, Tryz.ntmps133
  go_wp2_with fail
  refine HN.out.mono ?_
  rintro e w1 ⟨rfl, f1, h1⟩
  have F1 := hide f1
  have H1 := hide h1
  clear f1 h1
  go_wp2_with fail
  go_ret
  exact ⟨by rw [← HV.out]; rfl, F1.out, HW.out ▸ H1.out⟩
set_option maxRecDepth 100000 in
set_option maxHeartbeats 1600000 in
theorem weekday_any (B X f : Nat) (t : Tx) (w : World) (h : Rd B X f w t) :
    Calls Tryz.prog 136 #[.pointer (some ⟨X, f, none⟩)] w (RdS B X f w (.agg #[.int .i64 (wdy t).1.1, .int .i64 (wdy t).1.2]) (wdy t).2) := by
  have HX := hide h.lt
  have HT0 := hide (there_new w #[.int .i64 0, .int .i64 0] 108 2 (by simp))
  have F0 := hide (FX.of (f := f) (more (start w) (.cells #[.int .i64 0, .int .i64 0] 108)) h.lt)
  have S0 : Hid (w.heap.size < (w.alloc (.cells #[.int .i64 0, .int .i64 0] 108)).heap.size) := hide (by simp)
  have H0 := hide (h.keep (more (start w) (.cells #[.int .i64 0, .int .i64 0] 108)))
  have N0 := hide (fun w h => number_any B X f t w h)
  have N1 := hide (fun w h => number_any B X f (num t).2 w h)
  have HE := hide (show (wdy t).2 = (num (num t).2).2 from rfl)
  have V0 := hide (show (wdy t).1.1 = (num t).1 from rfl)
  have V1 := hide (show (wdy t).1.2 = (num (num t).2).1 from rfl)
  generalize wdy t = R at *
  generalize num t = n0 at *
  generalize num n0.2 = n1 at *
  obtain ⟨R1, R2⟩ := R
  obtain ⟨a0, s0⟩ := n0
  obtain ⟨a1, s1⟩ := n1
  dsimp only at *
  clear h
  go_enter Tryz.func136, Tryz.ntmps136
  go_wp2_with fail
  refine (N0.out _ H0.out).mono ?_
  rintro e w1 ⟨rfl, f1, h1⟩
  have HT1 := hide (there_fx HT0.out f1 S0.out (by have := HX.out; omega))
  have S1 := hide (Nat.lt_of_lt_of_le S0.out f1.size)
  have F1 := hide (F0.out.trans f1)
  have H1 := hide h1
  clear f1 h1
  go_wp2_with fail
  refine (N1.out _ H1.out).mono ?_
  rintro e w2 ⟨rfl, f1, h1⟩
  have HT2 := hide (there_fx HT1.out f1 S1.out (by have := HX.out; omega))
  have S2 := hide (Nat.lt_of_lt_of_le S1.out f1.size)
  have F2 := hide (F1.out.trans f1)
  have H2 := hide h1
  clear f1 h1
  go_wp2_with (refine store_mid rfl _ _ _ rfl w.heap.size 0 #[.int .i64 a0, .int .i64 a1] rfl rfl HT2.out (by kernel_rfl) (by kernel_rfl) ?_)
  have hc := World.rangeAt_setCells_same w2 w.heap.size 0 [.int .i64 a0, .int .i64 a1] HT2.out
  have HF := hide (FX.put (o := 0) (b := w.heap.size) F2.out [.int .i64 a0, .int .i64 a1] (Nat.le_refl _) HX.out)
  have HR := hide (H2.out.low (below_setCells [.int .i64 a0, .int .i64 a1] w.heap.size 0 (Below.refl w.heap.size _) (Nat.le_refl _)) HX.out)
  go_wp2_with fail
  refine bodyPost_ret (v := .agg [.int .i64 a0, .int .i64 a1].toArray) ?_ ?_ ?_
  · exact results_mid rfl _ _ w.heap.size [.int .i64 a0, .int .i64 a1] _ rfl hc Tryz.underlying108 rfl (by kernel_rfl)
  · rfl
  · exact ⟨by rw [V0.out, V1.out], HF.out, HE.out ▸ HR.out⟩
set_option maxRecDepth 100000 in
set_option maxHeartbeats 1600000 in
theorem rdId_any (B X f : Nat) (t : Tx) (w : World) (h : Rd B X f w t) :
    Calls Tryz.prog 74 #[.pointer (some ⟨X, f, none⟩)] w (RdS B X f w (.agg #[.int .i64 (idnE t).1.1, .int .i64 (idnE t).1.2]) (idnE t).2) := by
  have HX := hide h.lt
  have HT0 := hide (there_new w #[.int .i64 0, .int .i64 0] 23 2 (by simp))
  have F0 := hide (FX.of (f := f) (more (start w) (.cells #[.int .i64 0, .int .i64 0] 23)) h.lt)
  have S0 : Hid (w.heap.size < (w.alloc (.cells #[.int .i64 0, .int .i64 0] 23)).heap.size) := hide (by simp)
  have H0 := hide (h.keep (more (start w) (.cells #[.int .i64 0, .int .i64 0] 23)))
  have N0 := hide (fun w h => number_any B X f t w h)
  have N1 := hide (fun w h => number_any B X f (num t).2 w h)
  have HE := hide (show (idnE t).2 = (num (num t).2).2 from rfl)
  have V0 := hide (show (idnE t).1.1 = (num t).1 from rfl)
  have V1 := hide (show (idnE t).1.2 = (num (num t).2).1 from rfl)
  generalize idnE t = R at *
  generalize num t = n0 at *
  generalize num n0.2 = n1 at *
  obtain ⟨R1, R2⟩ := R
  obtain ⟨a0, s0⟩ := n0
  obtain ⟨a1, s1⟩ := n1
  dsimp only at *
  clear h
  go_enter Tryz.func74, Tryz.ntmps74
  go_wp2_with fail
  refine (N0.out _ H0.out).mono ?_
  rintro e w1 ⟨rfl, f1, h1⟩
  have HT1 := hide (there_fx HT0.out f1 S0.out (by have := HX.out; omega))
  have S1 := hide (Nat.lt_of_lt_of_le S0.out f1.size)
  have F1 := hide (F0.out.trans f1)
  have H1 := hide h1
  clear f1 h1
  go_wp2_with fail
  refine (N1.out _ H1.out).mono ?_
  rintro e w2 ⟨rfl, f1, h1⟩
  have HT2 := hide (there_fx HT1.out f1 S1.out (by have := HX.out; omega))
  have S2 := hide (Nat.lt_of_lt_of_le S1.out f1.size)
  have F2 := hide (F1.out.trans f1)
  have H2 := hide h1
  clear f1 h1
  go_wp2_with (refine store_mid rfl _ _ _ rfl w.heap.size 0 #[.int .i64 a0, .int .i64 a1] rfl rfl HT2.out (by kernel_rfl) (by kernel_rfl) ?_)
  have hc := World.rangeAt_setCells_same w2 w.heap.size 0 [.int .i64 a0, .int .i64 a1] HT2.out
  have HF := hide (FX.put (o := 0) (b := w.heap.size) F2.out [.int .i64 a0, .int .i64 a1] (Nat.le_refl _) HX.out)
  have HR := hide (H2.out.low (below_setCells [.int .i64 a0, .int .i64 a1] w.heap.size 0 (Below.refl w.heap.size _) (Nat.le_refl _)) HX.out)
  go_wp2_with fail
  refine bodyPost_ret (v := .agg [.int .i64 a0, .int .i64 a1].toArray) ?_ ?_ ?_
  · exact results_mid rfl _ _ w.heap.size [.int .i64 a0, .int .i64 a1] _ rfl hc Tryz.underlying23 rfl (by kernel_rfl)
  · rfl
  · exact ⟨by rw [V0.out, V1.out], HF.out, HE.out ▸ HR.out⟩
set_option maxRecDepth 100000 in
set_option maxHeartbeats 1600000 in
theorem claim_any (B X f : Nat) (t : Tx) (w : World) (h : Rd B X f w t) :
    Calls Tryz.prog 77 #[.pointer (some ⟨X, f, none⟩)] w (RdS B X f w (.agg #[.int .i64 (clm t).1.1, .int .i64 (clm t).1.2.1, .int .i64 (clm t).1.2.2]) (clm t).2) := by
  have HX := hide h.lt
  have HT0 := hide (there_new w #[.int .i64 0, .int .i64 0, .int .i64 0] 52 3 (by simp))
  have F0 := hide (FX.of (f := f) (more (start w) (.cells #[.int .i64 0, .int .i64 0, .int .i64 0] 52)) h.lt)
  have S0 : Hid (w.heap.size < (w.alloc (.cells #[.int .i64 0, .int .i64 0, .int .i64 0] 52)).heap.size) := hide (by simp)
  have H0 := hide (h.keep (more (start w) (.cells #[.int .i64 0, .int .i64 0, .int .i64 0] 52)))
  have N0 := hide (fun w h => number_any B X f t w h)
  have N1 := hide (fun w h => number_any B X f (num t).2 w h)
  have N2 := hide (fun w h => number_any B X f (num (num t).2).2 w h)
  have HE := hide (show (clm t).2 = (num (num (num t).2).2).2 from rfl)
  have V0 := hide (show (clm t).1.1 = (num t).1 from rfl)
  have V1 := hide (show (clm t).1.2.1 = (num (num t).2).1 from rfl)
  have V2 := hide (show (clm t).1.2.2 = (num (num (num t).2).2).1 from rfl)
  generalize clm t = R at *
  generalize num t = n0 at *
  generalize num n0.2 = n1 at *
  generalize num n1.2 = n2 at *
  obtain ⟨R1, R2⟩ := R
  obtain ⟨a0, s0⟩ := n0
  obtain ⟨a1, s1⟩ := n1
  obtain ⟨a2, s2⟩ := n2
  dsimp only at *
  clear h
  go_enter Tryz.func77, Tryz.ntmps77
  go_wp2_with fail
  refine (N0.out _ H0.out).mono ?_
  rintro e w1 ⟨rfl, f1, h1⟩
  have HT1 := hide (there_fx HT0.out f1 S0.out (by have := HX.out; omega))
  have S1 := hide (Nat.lt_of_lt_of_le S0.out f1.size)
  have F1 := hide (F0.out.trans f1)
  have H1 := hide h1
  clear f1 h1
  go_wp2_with fail
  refine (N1.out _ H1.out).mono ?_
  rintro e w2 ⟨rfl, f1, h1⟩
  have HT2 := hide (there_fx HT1.out f1 S1.out (by have := HX.out; omega))
  have S2 := hide (Nat.lt_of_lt_of_le S1.out f1.size)
  have F2 := hide (F1.out.trans f1)
  have H2 := hide h1
  clear f1 h1
  go_wp2_with fail
  refine (N2.out _ H2.out).mono ?_
  rintro e w3 ⟨rfl, f1, h1⟩
  have HT3 := hide (there_fx HT2.out f1 S2.out (by have := HX.out; omega))
  have S3 := hide (Nat.lt_of_lt_of_le S2.out f1.size)
  have F3 := hide (F2.out.trans f1)
  have H3 := hide h1
  clear f1 h1
  go_wp2_with (refine store_mid rfl _ _ _ rfl w.heap.size 0 #[.int .i64 a0, .int .i64 a1, .int .i64 a2] rfl rfl HT3.out (by kernel_rfl) (by kernel_rfl) ?_)
  have hc := World.rangeAt_setCells_same w3 w.heap.size 0 [.int .i64 a0, .int .i64 a1, .int .i64 a2] HT3.out
  have HF := hide (FX.put (o := 0) (b := w.heap.size) F3.out [.int .i64 a0, .int .i64 a1, .int .i64 a2] (Nat.le_refl _) HX.out)
  have HR := hide (H3.out.low (below_setCells [.int .i64 a0, .int .i64 a1, .int .i64 a2] w.heap.size 0 (Below.refl w.heap.size _) (Nat.le_refl _)) HX.out)
  go_wp2_with fail
  refine bodyPost_ret (v := .agg [.int .i64 a0, .int .i64 a1, .int .i64 a2].toArray) ?_ ?_ ?_
  · exact results_mid rfl _ _ w.heap.size [.int .i64 a0, .int .i64 a1, .int .i64 a2] _ rfl hc Tryz.underlying52 rfl (by kernel_rfl)
  · rfl
  · exact ⟨by rw [V0.out, V1.out, V2.out], HF.out, HE.out ▸ HR.out⟩
end Go.Proofs.YtlmdceeeahnkcaaGreatDoor
namespace Go.Proofs.YtlmdceeeahnkcaaGreatDoor
open Go.RowKit Rul Rt Go.Sort Sc De Cl

def lenV : Value → Nat
  | .slice _ n _ => n
  | _ => 0
/-- what the loop still takes behind what it has. -/
structure Tak {α : Type} (el : Tx → α × Tx) (F : Nat) (n : Int) (t0 : Tx) (out : List α) (t1 : Tx) : Prop where
  is : takeE el F n t0 = (out ++ (takeE el (F - out.length) (n - out.length) t1).1, (takeE el (F - out.length) (n - out.length) t1).2)
  le : t1.length + out.length ≤ F
theorem Tak.start {α : Type} (el : Tx → α × Tx) (n : Int) (t0 : Tx) : Tak el t0.length n t0 [] t0 := ⟨by simp, by simp⟩
theorem Tak.step {α : Type} {el : Tx → α × Tx} {F : Nat} {n : Int} {t0 : Tx} {out : List α} {t1 : Tx} (h : Tak el F n t0 out t1) (he : Eats el) (h1 : (out.length : Int) < n) (h2 : t1 ≠ []) : Tak el F n t0 (out ++ [(el t1).1]) (el t1).2 := by
  have hlt := he t1 h2
  have hle := h.le
  have hp := List.length_pos_iff.2 h2
  refine ⟨?_, by rw [List.length_append, List.length_singleton]; omega⟩
  rw [h.is, takeE_go el (F - out.length) (n - out.length) t1 (by omega) h2 (by omega)]
  have e1 : F - out.length - 1 = F - (out ++ [(el t1).1]).length := by rw [List.length_append, List.length_singleton]; omega
  have e2 : n - (out.length : Int) - 1 = n - ((out ++ [(el t1).1]).length : Int) := by rw [List.length_append, List.length_singleton]; omega
  rw [e1, e2]; simp
theorem Tak.stop {α : Type} {el : Tx → α × Tx} {F : Nat} {n : Int} {t0 : Tx} {out : List α} {t1 : Tx} (h : Tak el F n t0 out t1) (hs : ¬ ((out.length : Int) < n ∧ t1 ≠ [])) : takeE el F n t0 = (out, t1) := by
  rw [h.is, takeE_stop el _ _ _ (fun g => hs ⟨by omega, g.2⟩)]; simp
theorem FX.own {X f : Nat} {w w' : World} (h : FX X f w w') {B : Nat} {e : TypeId} {s : Nat} {v : Value} {n : Nat} {xs : List Value} (ho : w.ownsRow B e s v n xs) (hX : X < B) : w'.ownsRow B e s v n xs :=
  World.ownsRow.kept ho h.g (by
    cases hv : v.ownBlock with
    | none => exact .inl rfl
    | some k => right; intro e; injection e with e; have := (World.ownsRow.lt ho k hv).1; omega)
theorem own_slice {w : World} {B : Nat} {e : TypeId} {s : Nat} {v : Value} {n : Nat} {xs : List Value} (h : w.ownsRow B e s v n xs) : ∃ A m c, v = .slice A m c ∧ m = n := by
  rcases h.2 with ⟨rfl, hn⟩ | ⟨g, cap, cur, rfl, _⟩
  · exact ⟨none, 0, 0, rfl, hn.symm⟩
  · exact ⟨_, _, _, rfl, rfl⟩
def cellsY (l : Tx) : List Value := l.map fun b => Value.int .u8 ((b.toNat : Nat) : Int)
theorem cellsY_append (l k : Tx) : cellsY (l ++ k) = cellsY l ++ cellsY k := List.map_append
abbrev OwnY (w : World) (B : Nat) (v : Value) (l : Tx) : Prop := w.ownsRow B 5 1 v l.length (cellsY l)
theorem ownY_nil (w : World) (B : Nat) : OwnY w B (.slice none 0 0) [] := World.ownsRow_nil _ _ _ _
theorem byte_info : (Tryz.prog.info? 5).map (fun i => (i.zero, i.size, i.bytes)) = some (some (.int .u8 0), 1, 1) := by kernel_rfl
theorem wp_oneY {ops : Array Oper} {rest : List Oper} {o : Oper} {a : Act} {Q : Exit → Act → World → Prop} {w : World} {B : Nat} {v : Value} {l : Tx} {p : UInt8} (hgd : o.guard = none) (s x : Operand)
    (ho : o.op = .call { callee := .builtin .append, args := #[s, x], argTypes := #[44, 44] }) (hs : a.eval s = v) {N : Nat} (hN : w.heap.size = N) (hx : a.eval x = .slice (some ⟨N, 0, none⟩) 1 1)
    (hown : OwnY w B v l) (hB : B ≤ w.heap.size) (hn : l.length ≤ 1000000)
    (h : ∀ v' w', OwnY w' B v' (l ++ [p]) → Go.RowKit.Below B w w' → wpList Tryz.prog ops Q rest (a.put o.dst v') w') :
    wpList Tryz.prog ops Q (o :: rest) a (w.alloc (.cells #[.int .u8 ((p.toNat : Nat) : Int)] 5)) := by
  subst hN
  obtain ⟨i0, hi, hz0, hz1, hz2⟩ := info_parts byte_info
  refine wpList_append_own _ hgd s x 44 ho B 5 i0 _ 1 1 Tryz.underlying44 hi hz0 hz1 hz2 rfl (by decide) v l.length (cellsY l) hs (hown.alloc _) ⟨w.heap.size, 0, none⟩ 1 1 [.int .u8 ((p.toNat : Nat) : Int)] hx rfl ?_ ?_ ?_ ?_ ?_ ?_
  · intro j u hu
    rw [plus, World.cell?_alloc_at _ _ _ _ rfl]
    exact (by simpa using hu)
  · intro u hu
    simp only [List.mem_cons, List.not_mem_nil, or_false] at hu
    subst hu; rfl
  · unfold maxLen; omega
  · omega
  · simp only [World.size_alloc]; omega
  · intro v' w' h2 h3 _
    refine h v' w' (by rw [OwnY, cellsY_append, List.length_append]; exact h2) (((Below.refl B w).alloc hB _).grown h3 (by simp only [World.size_alloc]; omega) fun j hj => (hown.lt j hj).1)
/-- a row of its own is read, and the text that is left. -/
def RdL (own : World → Nat → Value → Prop) (B X f : Nat) (w : World) (t : Tx) (e : Ending) (w' : World) : Prop := ∃ v, e = .returned v ∧ own w' w.heap.size v ∧ FX X f w w' ∧ Rd B X f w' t
set_option maxRecDepth 100000 in
set_option maxHeartbeats 1600000 in
theorem list_int (B X f : Nat) (t : Tx) (w : World) (h : Rd B X f w t) :
    Calls Tryz.prog 134 #[.pointer (some ⟨X, f, none⟩), .func (.func 73) #[.pointer (some ⟨X, f, none⟩)] #[]] w (RdL (fun w' b v => OwnI w' b v (lst num t).1) B X f w (lst num t).2) := by
  have HN := hide (number_any B X f t w h)
  have HX := hide h.lt
  have HL := hide h.len
  have HLE := hide (num_le t)
  have HT := hide (show lst num t = takeE num (num t).2.length (num t).1 (num t).2 from rfl)
  generalize lst num t = R at *
  generalize hnt : num t = nt at *
  obtain ⟨n, t0⟩ := nt
  dsimp only at *
  clear h hnt
  go_enter Tryz.func134, Tryz.ntmps134
  go_wp2_with fail
  refine HN.out.mono ?_
  rintro e w1 ⟨rfl, f1, h1⟩
  have F1 := hide f1
  have H1 := hide h1
  clear f1 h1
  go_wp2_with fail
  go_loopw [5] (fun v wr => ∃ (out : List Int) (t1 : Tx) (A : Option Addr) (m c : Nat), v = .slice A m c ∧ Hid (m = out.length) ∧ Hid (OwnI wr w.heap.size (.slice A m c) out) ∧ FX X f w wr ∧ Rd B X f wr t1 ∧ Tak num t0.length n t0 out t1) (fun v _ => t0.length - lenV v)
  case atStart => exact ⟨[], t0, none, 0, 0, rfl, hide rfl, hide (ownI_nil _ _), F1.out, H1.out, Tak.start _ _ _⟩
  case round =>
    obtain ⟨out, t1, A, m, c, rfl, HM, HO, hf, hr, hk⟩ := hrel
    have HF := hide hf
    have HR := hide hr
    have HK := hide hk
    have hat := hr.at_
    clear hf hr hk
    by_cases hlt : (m : Int) < n
    · cases t1 with
      | nil =>
        have HS := hide (HT.out.trans (HK.out.stop (fun g => g.2 rfl)))
        have q := str_tl ([] : Tx)
        go_wp2_with fail
        go_ret
        have e := HS.out
        subst e
        exact ⟨_, rfl, HM.out ▸ HO.out, HF.out, HR.out⟩
      | cons a s =>
        have q := str_tl (a :: s)
        have HE := hide (number_any B X f (a :: s) wr HR.out)
        have HS := hide (HK.out.step eats_num (by have := HM.out; omega) (by simp))
        have HB := hide HF.out.size
        have HQ := hide (show out.length ≤ 1000000 by have := HK.out.le; have := HLE.out; have := HL.out; omega)
        have HLT := hide (show m < t0.length by have := HK.out.le; have := HM.out; simp only [List.length_cons] at *; omega)
        generalize num (a :: s) = z at *
        obtain ⟨z1, z2⟩ := z
        dsimp only at *
        go_wp2_with fail
        refine HE.out.mono ?_
        rintro e w2 ⟨rfl, f2, h2⟩
        have F2 := hide (HF.out.trans f2)
        have H2 := hide h2
        have O2 := hide (f2.own HO.out HX.out)
        have B2 := hide (Nat.le_trans HB.out f2.size)
        clear f2 h2 hat
        go_wp2_with (refine wp_oneI (B := w.heap.size) (l := out) (p := z1) rfl _ _ rfl rfl rfl rfl (HM.out ▸ O2.out) B2.out HQ.out ?_)
        intro v3 w3 ho3 hb3
        obtain ⟨A3, m3, c3, rfl, e3⟩ := own_slice ho3
        have O3 := hide ho3
        have F3 := hide (F2.out.low hb3 HX.out)
        have H3 := hide (H2.out.low hb3 HX.out)
        have E3 := hide e3
        clear ho3 hb3 e3
        go_wp2_with fail
        go_roundw
        case rel => exact ⟨out ++ [z1], z2, A3, m3, c3, rfl, E3, hide (E3.out ▸ O3.out), F3.out, H3.out, HS.out⟩
        case measure => have := E3.out; have := HM.out; have := HLT.out; simp [lenV] at *; omega
    · have HS := hide (HT.out.trans (HK.out.stop (fun g => hlt (by have := HM.out; omega))))
      go_wp2_with fail
      go_ret
      have e := HS.out
      subst e
      exact ⟨_, rfl, HM.out ▸ HO.out, HF.out, HR.out⟩
set_option maxRecDepth 100000 in
set_option maxHeartbeats 1600000 in
theorem list_byte (B X f : Nat) (t : Tx) (w : World) (h : Rd B X f w t) :
    Calls Tryz.prog 132 #[.pointer (some ⟨X, f, none⟩), .func (.func 133) #[.pointer (some ⟨X, f, none⟩)] #[]] w (RdL (fun w' b v => OwnY w' b v (lst ltr t).1) B X f w (lst ltr t).2) := by
  have HN := hide (number_any B X f t w h)
  have HX := hide h.lt
  have HL := hide h.len
  have HLE := hide (num_le t)
  have HT := hide (show lst ltr t = takeE ltr (num t).2.length (num t).1 (num t).2 from rfl)
  generalize lst ltr t = R at *
  generalize hnt : num t = nt at *
  obtain ⟨n, t0⟩ := nt
  dsimp only at *
  clear h hnt
  go_enter Tryz.func132, Tryz.ntmps132
  go_wp2_with fail
  refine HN.out.mono ?_
  rintro e w1 ⟨rfl, f1, h1⟩
  have F1 := hide f1
  have H1 := hide h1
  clear f1 h1
  go_wp2_with fail
  go_loopw [5] (fun v wr => ∃ (out : List UInt8) (t1 : Tx) (A : Option Addr) (m c : Nat), v = .slice A m c ∧ Hid (m = out.length) ∧ Hid (OwnY wr w.heap.size (.slice A m c) out) ∧ FX X f w wr ∧ Rd B X f wr t1 ∧ Tak ltr t0.length n t0 out t1) (fun v _ => t0.length - lenV v)
  case atStart => exact ⟨[], t0, none, 0, 0, rfl, hide rfl, hide (ownY_nil _ _), F1.out, H1.out, Tak.start _ _ _⟩
  case round =>
    obtain ⟨out, t1, A, m, c, rfl, HM, HO, hf, hr, hk⟩ := hrel
    have HF := hide hf
    have HR := hide hr
    have HK := hide hk
    have hat := hr.at_
    clear hf hr hk
    by_cases hlt : (m : Int) < n
    · cases t1 with
      | nil =>
        have HS := hide (HT.out.trans (HK.out.stop (fun g => g.2 rfl)))
        have q := str_tl ([] : Tx)
        go_wp2_with fail
        go_ret
        have e := HS.out
        subst e
        exact ⟨_, rfl, HM.out ▸ HO.out, HF.out, HR.out⟩
      | cons a s =>
        have q := str_tl (a :: s)
        have HE := hide (letter_any B X f (a :: s) wr HR.out)
        have HS := hide (HK.out.step eats_ltr (by have := HM.out; omega) (by simp))
        have HB := hide HF.out.size
        have HQ := hide (show out.length ≤ 1000000 by have := HK.out.le; have := HLE.out; have := HL.out; omega)
        have HLT := hide (show m < t0.length by have := HK.out.le; have := HM.out; simp only [List.length_cons] at *; omega)
        generalize ltr (a :: s) = z at *
        obtain ⟨z1, z2⟩ := z
        dsimp only at *
        go_wp2_with fail
        refine HE.out.mono ?_
        rintro e w2 ⟨rfl, f2, h2⟩
        have F2 := hide (HF.out.trans f2)
        have H2 := hide h2
        have O2 := hide (f2.own HO.out HX.out)
        have B2 := hide (Nat.le_trans HB.out f2.size)
        clear f2 h2 hat
        go_wp2_with (refine wp_oneY (B := w.heap.size) (l := out) (p := z1) rfl _ _ rfl rfl rfl rfl (HM.out ▸ O2.out) B2.out HQ.out ?_)
        intro v3 w3 ho3 hb3
        obtain ⟨A3, m3, c3, rfl, e3⟩ := own_slice ho3
        have O3 := hide ho3
        have F3 := hide (F2.out.low hb3 HX.out)
        have H3 := hide (H2.out.low hb3 HX.out)
        have E3 := hide e3
        clear ho3 hb3 e3
        go_wp2_with fail
        go_roundw
        case rel => exact ⟨out ++ [z1], z2, A3, m3, c3, rfl, E3, hide (E3.out ▸ O3.out), F3.out, H3.out, HS.out⟩
        case measure => have := E3.out; have := HM.out; have := HLT.out; simp [lenV] at *; omega
    · have HS := hide (HT.out.trans (HK.out.stop (fun g => hlt (by have := HM.out; omega))))
      go_wp2_with fail
      go_ret
      have e := HS.out
      subst e
      exact ⟨_, rfl, HM.out ▸ HO.out, HF.out, HR.out⟩
set_option maxRecDepth 100000 in
set_option maxHeartbeats 1600000 in
theorem list_wd (B X f : Nat) (t : Tx) (w : World) (h : Rd B X f w t) :
    Calls Tryz.prog 135 #[.pointer (some ⟨X, f, none⟩), .func (.func 136) #[.pointer (some ⟨X, f, none⟩)] #[]] w (RdL (fun w' b v => OwnD w' b v (lst wdy t).1) B X f w (lst wdy t).2) := by
  have HN := hide (number_any B X f t w h)
  have HX := hide h.lt
  have HL := hide h.len
  have HLE := hide (num_le t)
  have HT := hide (show lst wdy t = takeE wdy (num t).2.length (num t).1 (num t).2 from rfl)
  generalize lst wdy t = R at *
  generalize hnt : num t = nt at *
  obtain ⟨n, t0⟩ := nt
  dsimp only at *
  clear h hnt
  go_enter Tryz.func135, Tryz.ntmps135
  go_wp2_with fail
  refine HN.out.mono ?_
  rintro e w1 ⟨rfl, f1, h1⟩
  have F1 := hide f1
  have H1 := hide h1
  clear f1 h1
  go_wp2_with fail
  go_loopw [5] (fun v wr => ∃ (out : List Wd) (t1 : Tx) (A : Option Addr) (m c : Nat), v = .slice A m c ∧ Hid (m = out.length) ∧ Hid (OwnD wr w.heap.size (.slice A m c) out) ∧ FX X f w wr ∧ Rd B X f wr t1 ∧ Tak wdy t0.length n t0 out t1) (fun v _ => t0.length - lenV v)
  case atStart => exact ⟨[], t0, none, 0, 0, rfl, hide rfl, hide (ownD_nil _ _), F1.out, H1.out, Tak.start _ _ _⟩
  case round =>
    obtain ⟨out, t1, A, m, c, rfl, HM, HO, hf, hr, hk⟩ := hrel
    have HF := hide hf
    have HR := hide hr
    have HK := hide hk
    have hat := hr.at_
    clear hf hr hk
    by_cases hlt : (m : Int) < n
    · cases t1 with
      | nil =>
        have HS := hide (HT.out.trans (HK.out.stop (fun g => g.2 rfl)))
        have q := str_tl ([] : Tx)
        go_wp2_with fail
        go_ret
        have e := HS.out
        subst e
        exact ⟨_, rfl, HM.out ▸ HO.out, HF.out, HR.out⟩
      | cons a s =>
        have q := str_tl (a :: s)
        have HE := hide (weekday_any B X f (a :: s) wr HR.out)
        have HS := hide (HK.out.step eats_wdy (by have := HM.out; omega) (by simp))
        have HB := hide HF.out.size
        have HQ := hide (show out.length ≤ 1000000 by have := HK.out.le; have := HLE.out; have := HL.out; omega)
        have HLT := hide (show m < t0.length by have := HK.out.le; have := HM.out; simp only [List.length_cons] at *; omega)
        generalize wdy (a :: s) = z at *
        obtain ⟨⟨z1, z3⟩, z2⟩ := z
        dsimp only at *
        go_wp2_with fail
        refine HE.out.mono ?_
        rintro e w2 ⟨rfl, f2, h2⟩
        have F2 := hide (HF.out.trans f2)
        have H2 := hide h2
        have O2 := hide (f2.own HO.out HX.out)
        have B2 := hide (Nat.le_trans HB.out f2.size)
        clear f2 h2 hat
        go_wp2_with (refine wp_oneD (B := w.heap.size) (l := out) (p := (z1, z3)) rfl _ _ rfl rfl rfl rfl (HM.out ▸ O2.out) B2.out HQ.out ?_)
        intro v3 w3 ho3 hb3
        obtain ⟨A3, m3, c3, rfl, e3⟩ := own_slice ho3
        have O3 := hide ho3
        have F3 := hide (F2.out.low hb3 HX.out)
        have H3 := hide (H2.out.low hb3 HX.out)
        have E3 := hide e3
        clear ho3 hb3 e3
        go_wp2_with fail
        go_roundw
        case rel => exact ⟨out ++ [(z1, z3)], z2, A3, m3, c3, rfl, E3, hide (E3.out ▸ O3.out), F3.out, H3.out, HS.out⟩
        case measure => have := E3.out; have := HM.out; have := HLT.out; simp [lenV] at *; omega
    · have HS := hide (HT.out.trans (HK.out.stop (fun g => hlt (by have := HM.out; omega))))
      go_wp2_with fail
      go_ret
      have e := HS.out
      subst e
      exact ⟨_, rfl, HM.out ▸ HO.out, HF.out, HR.out⟩
set_option maxRecDepth 100000 in
set_option maxHeartbeats 1600000 in
theorem list_cl (B X f : Nat) (t : Tx) (w : World) (h : Rd B X f w t) :
    Calls Tryz.prog 76 #[.pointer (some ⟨X, f, none⟩), .func (.func 77) #[.pointer (some ⟨X, f, none⟩)] #[]] w (RdL (fun w' b v => S2.OwnC w' b v (lst clm t).1) B X f w (lst clm t).2) := by
  have HN := hide (number_any B X f t w h)
  have HX := hide h.lt
  have HL := hide h.len
  have HLE := hide (num_le t)
  have HT := hide (show lst clm t = takeE clm (num t).2.length (num t).1 (num t).2 from rfl)
  generalize lst clm t = R at *
  generalize hnt : num t = nt at *
  obtain ⟨n, t0⟩ := nt
  dsimp only at *
  clear h hnt
  go_enter Tryz.func76, Tryz.ntmps76
  go_wp2_with fail
  refine HN.out.mono ?_
  rintro e w1 ⟨rfl, f1, h1⟩
  have F1 := hide f1
  have H1 := hide h1
  clear f1 h1
  go_wp2_with fail
  go_loopw [5] (fun v wr => ∃ (out : List C) (t1 : Tx) (A : Option Addr) (m c : Nat), v = .slice A m c ∧ Hid (m = out.length) ∧ Hid (S2.OwnC wr w.heap.size (.slice A m c) out) ∧ FX X f w wr ∧ Rd B X f wr t1 ∧ Tak clm t0.length n t0 out t1) (fun v _ => t0.length - lenV v)
  case atStart => exact ⟨[], t0, none, 0, 0, rfl, hide rfl, hide (S2.ownC_nil _ _), F1.out, H1.out, Tak.start _ _ _⟩
  case round =>
    obtain ⟨out, t1, A, m, c, rfl, HM, HO, hf, hr, hk⟩ := hrel
    have HF := hide hf
    have HR := hide hr
    have HK := hide hk
    have hat := hr.at_
    clear hf hr hk
    by_cases hlt : (m : Int) < n
    · cases t1 with
      | nil =>
        have HS := hide (HT.out.trans (HK.out.stop (fun g => g.2 rfl)))
        have q := str_tl ([] : Tx)
        go_wp2_with fail
        go_ret
        have e := HS.out
        subst e
        exact ⟨_, rfl, HM.out ▸ HO.out, HF.out, HR.out⟩
      | cons a s =>
        have q := str_tl (a :: s)
        have HE := hide (claim_any B X f (a :: s) wr HR.out)
        have HS := hide (HK.out.step eats_clm (by have := HM.out; omega) (by simp))
        have HB := hide HF.out.size
        have HQ := hide (show out.length ≤ 1000000 by have := HK.out.le; have := HLE.out; have := HL.out; omega)
        have HLT := hide (show m < t0.length by have := HK.out.le; have := HM.out; simp only [List.length_cons] at *; omega)
        generalize clm (a :: s) = z at *
        obtain ⟨⟨z1, z3, z4⟩, z2⟩ := z
        dsimp only at *
        go_wp2_with fail
        refine HE.out.mono ?_
        rintro e w2 ⟨rfl, f2, h2⟩
        have F2 := hide (HF.out.trans f2)
        have H2 := hide h2
        have O2 := hide (f2.own HO.out HX.out)
        have B2 := hide (Nat.le_trans HB.out f2.size)
        clear f2 h2 hat
        go_wp2_with (refine S2.wp_oneC (B := w.heap.size) (l := out) (p := (z1, (z3, z4))) rfl _ _ rfl rfl rfl rfl (HM.out ▸ O2.out) B2.out HQ.out ?_)
        intro v3 w3 ho3 hb3
        obtain ⟨A3, m3, c3, rfl, e3⟩ := own_slice ho3
        have O3 := hide ho3
        have F3 := hide (F2.out.low hb3 HX.out)
        have H3 := hide (H2.out.low hb3 HX.out)
        have E3 := hide e3
        clear ho3 hb3 e3
        go_wp2_with fail
        go_roundw
        case rel => exact ⟨out ++ [(z1, (z3, z4))], z2, A3, m3, c3, rfl, E3, hide (E3.out ▸ O3.out), F3.out, H3.out, HS.out⟩
        case measure => have := E3.out; have := HM.out; have := HLT.out; simp [lenV] at *; omega
    · have HS := hide (HT.out.trans (HK.out.stop (fun g => hlt (by have := HM.out; omega))))
      go_wp2_with fail
      go_ret
      have e := HS.out
      subst e
      exact ⟨_, rfl, HM.out ▸ HO.out, HF.out, HR.out⟩
end Go.Proofs.YtlmdceeeahnkcaaGreatDoor

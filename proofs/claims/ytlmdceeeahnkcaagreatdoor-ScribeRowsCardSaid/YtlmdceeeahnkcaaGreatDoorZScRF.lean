/- Package scribe's reader: the fields of a deed. Written by recipes/sc7.py. -/
import Derived.Deep.RegionHeld3
import Derived.Test.YtlmdceeeahnkcaaGreatDoorZQ9
namespace Go.Proofs.YtlmdceeeahnkcaaGreatDoor
open Go.RowKit Rul Rt Go.Sort Sc De Cl

/-- the reader: 35 cells of a deed, and behind them what is left of the text. -/
structure RS (B X : Nat) (w : World) (cs : List Value) (t : Tx) : Prop where
  rd : Rd B X 35 w t
  at_ : w.rangeAt X 0 cs
  len : cs.length = 35
  fz : ∀ j, w.frozen? ⟨X, j, none⟩ = false
theorem RS.fx {B X : Nat} {w w1 : World} {cs : List Value} {t s : Tx} (h : RS B X w cs t) (hf : FX X 35 w w1) (hr : Rd B X 35 w1 s) : RS B X w1 cs s :=
  ⟨hr, fun j v hv => by
    have hj := (List.getElem?_eq_some_iff.1 hv).1
    have hl := h.len
    rw [Nat.zero_add, hf.cell j (by omega)]
    have := h.at_ j v hv
    rwa [Nat.zero_add] at this, h.len, fun j => (hf.frz j).trans (h.fz j)⟩
theorem RS.cell {B X : Nat} {w : World} {cs : List Value} {t : Tx} (h : RS B X w cs t) (j : Nat) (v : Value) (hv : cs[j]? = some v) : w.cell? ⟨X, j, none⟩ = some v := range_cell h.at_ j j v hv (by omega)
theorem RS.there {B X : Nat} {w : World} {cs : List Value} {t : Tx} (h : RS B X w cs t) (o n : Nat) (hn : o + n ≤ 35) : w.there X o n := fun j hj => by
  have hl := h.len
  exact ⟨by rw [h.cell (o + j) _ (List.getElem?_eq_getElem (by omega))]; rfl, h.fz _⟩
theorem RS.set {B X : Nat} {w : World} {cs : List Value} {t : Tx} (h : RS B X w cs t) (j : Nat) (v : Value) (hj : j < 35) : RS B X (w.setCell ⟨X, j, none⟩ v) (cs.set j v) t := by
  have hl := h.len
  have r := h.rd
  refine ⟨⟨r.env.on (Below.setCell (Below.refl _ _) (p := ⟨X, j, none⟩) r.le v), r.le, by simpa [World.setCell] using r.lt, ?_, by rw [World.frozen?_setCell]; exact r.free, r.len⟩, range_set h.at_ j j v (by omega) (by omega), by rw [List.length_set]; exact hl, fun i => by rw [World.frozen?_setCell]; exact h.fz i⟩
  rw [World.cell?_setCell_other _ _ _ _ (by intro e; injection e with _ e; omega)]; exact r.at_
theorem RS.sets {B X : Nat} {w : World} {cs : List Value} {t : Tx} (h : RS B X w cs t) (o : Nat) (vs : List Value) (pre old post : List Value) (e : cs = pre ++ (old ++ post)) (ho : o = pre.length) (hl : vs.length = old.length) : RS B X (w.setCells X o vs) (pre ++ (vs ++ post)) t := by
  have hc := h.len
  have r := h.rd
  subst ho
  have hn : pre.length + old.length + post.length = 35 := by rw [e] at hc; simp only [List.length_append] at hc; omega
  refine ⟨⟨r.env.on (below_setCells vs X _ (Below.refl _ _) r.le), r.le, ?_, ?_, by rw [World.frozen?_setCells]; exact r.free, r.len⟩, fun j v hv => ?_, by simp only [List.length_append]; omega, fun i => by rw [World.frozen?_setCells]; exact h.fz i⟩
  · exact Nat.lt_of_lt_of_le r.lt (grown_setCells vs w X pre.length).size
  · rw [World.cell?_setCells_out X vs pre.length w _ (fun _ _ => Or.inr (by show pre.length + vs.length ≤ 35; omega))]; exact r.at_
  · rw [Nat.zero_add]
    by_cases h1 : j < pre.length
    · rw [World.cell?_setCells_out X vs pre.length w _ (fun _ _ => Or.inl h1)]
      refine h.cell j v ?_
      rw [List.getElem?_append_left h1] at hv
      rw [e, List.getElem?_append_left h1]; exact hv
    · by_cases h2 : j < pre.length + vs.length
      · have ht := h.there pre.length vs.length (by omega)
        have := World.cell?_setCells_in X vs pre.length w (fun i hi => (ht i hi).1) (j - pre.length) (by omega)
        rw [show pre.length + (j - pre.length) = j by omega] at this
        rw [this]
        rw [List.getElem?_append_right (by omega), List.getElem?_append_left (by omega)] at hv
        rw [← hv, List.getElem?_eq_getElem (by omega)]
      · rw [World.cell?_setCells_out X vs pre.length w _ (fun _ _ => Or.inr (by show pre.length + vs.length ≤ j; omega))]
        refine h.cell j v ?_
        rw [List.getElem?_append_right (by omega), List.getElem?_append_right (by omega)] at hv
        rw [e, List.getElem?_append_right (by omega), List.getElem?_append_right (by omega), ← hl]; exact hv
theorem grown_setX (w : World) (X j : Nat) (v : Value) : w.grownBy (w.setCell ⟨X, j, none⟩ v) (some X) :=
  ⟨rfl, rfl, rfl, by simp [World.setCell], fun k _ hx => Below.heap_setCell _ _ _ _ (fun e => hx (by rw [e]))⟩
theorem grown_on {a b c : World} {r : Option Nat} (h : a.grownBy b r) (k : b.grownBy c r) : a.grownBy c r :=
  ⟨k.os.trans h.os, k.tape.trans h.tape, k.output.trans h.output, Nat.le_trans h.size k.size, fun i hi hx => (k.block i (Nat.lt_of_lt_of_le hi h.size) hx).trans (h.block i hi hx)⟩
theorem KI.nil (S : Nat) (w : World) : KI S w none [] := ⟨fun h => absurd rfl h, fun _ _ h => by cases h⟩
theorem KD.nil (S : Nat) (w : World) : KD S w none [] := ⟨fun h => absurd rfl h, fun _ _ h => by cases h⟩
theorem KC.nil (S : Nat) (w : World) : KC S w none [] := ⟨fun h => absurd rfl h, fun _ _ h => by cases h⟩
theorem EvF.nil (S : Nat) (w : World) : EvF S w e0 mZ := ⟨KI.nil _ _, KD.nil _ _, KI.nil _ _, KI.nil _ _, KI.nil _ _⟩
theorem RS.drew {B X : Nat} {w : World} {cs : List Value} {t : Tx} (h : RS B X w cs t) : RS B X w.drew cs t :=
  h.fx (FX.of (start w).drew h.rd.lt) (h.rd.keep (start w).drew)
theorem grown_drew (w : World) {r : Option Nat} : w.grownBy w.drew r := ⟨rfl, rfl, rfl, Nat.le_refl _, fun _ _ _ => rfl⟩
theorem rs_end {B X : Nat} {w : World} {k pe nn : Int} {b : De.B} {m : Mem} {t : Tx} (h : RS B X w (dC ⟨k, (0, 0), e0, [], pe, nn, b0⟩ mD) t) : RS B X (w.setCells X 19 (bkC b m)) (dC ⟨k, (0, 0), e0, [], pe, nn, b⟩ ⟨mZ, none, 0, m⟩) t := by
  have := h.sets 19 (bkC b m) [.int .i64 k, .int .i64 0, .int .i64 0, .string (str []), .string (str []), .int .i64 0, .int .i64 0, .slice none 0 0, .int .i64 0, .int .i64 0, .int .i64 0, .int .i64 0, .slice none 0 0, .slice none 0 0, .slice none 0 0, .slice none 0 0, .slice none 0 0, .int .i64 pe, .int .i64 nn] (bkC b0 mZ) [] rfl rfl rfl
  rw [List.append_nil] at this
  exact this
/-- a deed's rows, where they lie. -/
structure DF (S : Nat) (w : World) (d : D) (m : DM) : Prop where
  e : EvF S w d.e m.e
  c : KC S w m.A d.cl
  b : EvF S w d.b.e m.b
/-- the fields are read. -/
def RdF (B X : Nat) (w : World) (d : D) (e : Ending) (w' : World) : Prop := ∃ m t', e = .returned (.tuple #[]) ∧ RS B X w' (dC d m) t' ∧ DF w.heap.size w' d m ∧ w.grownBy w' (some X)
set_option maxRecDepth 100000 in
set_option maxHeartbeats 6400000 in
set_option linter.unusedSimpArgs false in
theorem fields3 (B X : Nat) (t : Tx) (w : World) (h : RS B X w (dC d0 mD) t) (hk : (num t).1 = 3) (i j : Int) (t1 t2 : Tx) (h1 : (num t).2 = t1) (h2 : idnE t1 = ((i, j), t2)) :
    Calls Tryz.prog 54 #[.pointer (some ⟨X, 0, none⟩)] w (RdF B X w (⟨3, (i, j), e0, [], 0, 0, b0⟩)) := by
  have hmf : ∀ (fn : Fn) (first cap : Array Value) (w : World), (Instr.makeFunc fn first cap).run Tryz.prog w = .ok (.func fn first cap) w := fun _ _ _ _ => rfl
  have HX := hide h.rd.lt
  have N0 := hide (number_any B X 35 t w h.rd)
  have R0 := hide h
  rw [hk, h1] at N0
  have HI := hide (fun w h => rdId_any B X 35 t1 w h)
  rw [h2] at HI
  dsimp only at HI
  clear hk h1 h2
  clear h
  go_enter Tryz.func54, Tryz.ntmps54
  go_wp2_with fail
  refine N0.out.mono ?_
  rintro e w1 ⟨rfl, f1, h1⟩
  have R1 := hide (R0.out.fx f1 h1)
  have G1 := hide f1.g
  have c0 := R1.out.cell 0 _ rfl
  have z0 := R1.out.fz 0
  clear f1 h1
  go_wp2_with fail
  have R2 := hide (show RS B X (w1.setCell ⟨X, 0, none⟩ (.int .i64 3)) (dC ⟨3, (0, 0), e0, [], 0, 0, b0⟩ mD) _ from R1.out.set 0 (.int .i64 3) (by decide))
  have G2 := hide (grown_on G1.out (grown_setX w1 X 0 (.int .i64 3)))
  generalize hW : w1.setCell ⟨X, 0, none⟩ (.int .i64 3) = w2 at *
  clear hW
  clear c0 z0
  refine (HI.out w2 R2.out.rd).mono ?_
  rintro e w3 ⟨rfl, f1, h1⟩
  have R3 := hide (R2.out.fx f1 h1)
  have G3 := hide (grown_on G2.out f1.g)
  clear f1 h1
  go_wp2_with (refine store_mid rfl _ _ _ rfl X 1 #[.int .i64 i, .int .i64 j] rfl rfl (R3.out.there 1 2 (by decide)) (by kernel_rfl) (by kernel_rfl) ?_)
  have R4 := hide (show RS B X (w3.setCells X 1 [.int .i64 i, .int .i64 j]) (dC ⟨3, (i, j), e0, [], 0, 0, b0⟩ mD) _ from R3.out.sets 1 [.int .i64 i, .int .i64 j] [.int .i64 3] [.int .i64 0, .int .i64 0] _ rfl rfl rfl)
  have G4 := hide (grown_on G3.out (grown_setCells [.int .i64 i, .int .i64 j] w3 X 1))
  generalize hW : w3.setCells X 1 [.int .i64 i, .int .i64 j] = w4 at *
  clear hW
  go_wp2_with fail
  go_end0
  exact ⟨mD, _, rfl, R4.out, ⟨EvF.nil _ _, KC.nil _ _, EvF.nil _ _⟩, G4.out⟩
set_option maxRecDepth 100000 in
set_option maxHeartbeats 6400000 in
set_option linter.unusedSimpArgs false in
theorem fields4 (B X : Nat) (t : Tx) (w : World) (h : RS B X w (dC d0 mD) t) (hk : (num t).1 = 4) (i j : Int) (t1 t2 : Tx) (h1 : (num t).2 = t1) (h2 : idnE t1 = ((i, j), t2)) :
    Calls Tryz.prog 54 #[.pointer (some ⟨X, 0, none⟩)] w (RdF B X w (⟨4, (i, j), e0, [], 0, 0, b0⟩)) := by
  have hmf : ∀ (fn : Fn) (first cap : Array Value) (w : World), (Instr.makeFunc fn first cap).run Tryz.prog w = .ok (.func fn first cap) w := fun _ _ _ _ => rfl
  have HX := hide h.rd.lt
  have N0 := hide (number_any B X 35 t w h.rd)
  have R0 := hide h
  rw [hk, h1] at N0
  have HI := hide (fun w h => rdId_any B X 35 t1 w h)
  rw [h2] at HI
  dsimp only at HI
  clear hk h1 h2
  clear h
  go_enter Tryz.func54, Tryz.ntmps54
  go_wp2_with fail
  refine N0.out.mono ?_
  rintro e w1 ⟨rfl, f1, h1⟩
  have R1 := hide (R0.out.fx f1 h1)
  have G1 := hide f1.g
  have c0 := R1.out.cell 0 _ rfl
  have z0 := R1.out.fz 0
  clear f1 h1
  go_wp2_with fail
  have R2 := hide (show RS B X (w1.setCell ⟨X, 0, none⟩ (.int .i64 4)) (dC ⟨4, (0, 0), e0, [], 0, 0, b0⟩ mD) _ from R1.out.set 0 (.int .i64 4) (by decide))
  have G2 := hide (grown_on G1.out (grown_setX w1 X 0 (.int .i64 4)))
  generalize hW : w1.setCell ⟨X, 0, none⟩ (.int .i64 4) = w2 at *
  clear hW
  clear c0 z0
  refine (HI.out w2 R2.out.rd).mono ?_
  rintro e w3 ⟨rfl, f1, h1⟩
  have R3 := hide (R2.out.fx f1 h1)
  have G3 := hide (grown_on G2.out f1.g)
  clear f1 h1
  go_wp2_with (refine store_mid rfl _ _ _ rfl X 1 #[.int .i64 i, .int .i64 j] rfl rfl (R3.out.there 1 2 (by decide)) (by kernel_rfl) (by kernel_rfl) ?_)
  have R4 := hide (show RS B X (w3.setCells X 1 [.int .i64 i, .int .i64 j]) (dC ⟨4, (i, j), e0, [], 0, 0, b0⟩ mD) _ from R3.out.sets 1 [.int .i64 i, .int .i64 j] [.int .i64 4] [.int .i64 0, .int .i64 0] _ rfl rfl rfl)
  have G4 := hide (grown_on G3.out (grown_setCells [.int .i64 i, .int .i64 j] w3 X 1))
  generalize hW : w3.setCells X 1 [.int .i64 i, .int .i64 j] = w4 at *
  clear hW
  go_wp2_with fail
  go_end0
  exact ⟨mD, _, rfl, R4.out, ⟨EvF.nil _ _, KC.nil _ _, EvF.nil _ _⟩, G4.out⟩
set_option maxRecDepth 100000 in
set_option maxHeartbeats 6400000 in
set_option linter.unusedSimpArgs false in
theorem fields1 (B X : Nat) (t : Tx) (w : World) (h : RS B X w (dC d0 mD) t) (hk : (num t).1 = 1) (i j : Int) (v : Ev.E) (t1 t2 t3 : Tx) (h1 : (num t).2 = t1) (h2 : idnE t1 = ((i, j), t2)) (h3 : evtE t2 = (v, t3)) :
    Calls Tryz.prog 54 #[.pointer (some ⟨X, 0, none⟩)] w (RdF B X w (⟨1, (i, j), v, [], 0, 0, b0⟩)) := by
  have hmf : ∀ (fn : Fn) (first cap : Array Value) (w : World), (Instr.makeFunc fn first cap).run Tryz.prog w = .ok (.func fn first cap) w := fun _ _ _ _ => rfl
  have HX := hide h.rd.lt
  have N0 := hide (number_any B X 35 t w h.rd)
  have R0 := hide h
  rw [hk, h1] at N0
  have HI := hide (fun w h => rdId_any B X 35 t1 w h)
  rw [h2] at HI
  dsimp only at HI
  have HV := hide (fun w h => revent_any B X 35 t2 w h)
  rw [h3] at HV
  dsimp only at HV
  clear hk h1 h2 h3
  clear h
  go_enter Tryz.func54, Tryz.ntmps54
  go_wp2_with fail
  refine N0.out.mono ?_
  rintro e w1 ⟨rfl, f1, h1⟩
  have R1 := hide (R0.out.fx f1 h1)
  have G1 := hide f1.g
  have c0 := R1.out.cell 0 _ rfl
  have z0 := R1.out.fz 0
  clear f1 h1
  go_wp2_with fail
  have R2 := hide (show RS B X (w1.setCell ⟨X, 0, none⟩ (.int .i64 1)) (dC ⟨1, (0, 0), e0, [], 0, 0, b0⟩ mD) _ from R1.out.set 0 (.int .i64 1) (by decide))
  have G2 := hide (grown_on G1.out (grown_setX w1 X 0 (.int .i64 1)))
  generalize hW : w1.setCell ⟨X, 0, none⟩ (.int .i64 1) = w2 at *
  clear hW
  clear c0 z0
  refine (HI.out w2 R2.out.rd).mono ?_
  rintro e w3 ⟨rfl, f1, h1⟩
  have R3 := hide (R2.out.fx f1 h1)
  have G3 := hide (grown_on G2.out f1.g)
  clear f1 h1
  go_wp2_with (refine store_mid rfl _ _ _ rfl X 1 #[.int .i64 i, .int .i64 j] rfl rfl (R3.out.there 1 2 (by decide)) (by kernel_rfl) (by kernel_rfl) ?_)
  have R4 := hide (show RS B X (w3.setCells X 1 [.int .i64 i, .int .i64 j]) (dC ⟨1, (i, j), e0, [], 0, 0, b0⟩ mD) _ from R3.out.sets 1 [.int .i64 i, .int .i64 j] [.int .i64 1] [.int .i64 0, .int .i64 0] _ rfl rfl rfl)
  have G4 := hide (grown_on G3.out (grown_setCells [.int .i64 i, .int .i64 j] w3 X 1))
  generalize hW : w3.setCells X 1 [.int .i64 i, .int .i64 j] = w4 at *
  clear hW
  go_wp2_with fail
  refine (HV.out w4 R4.out.rd).mono ?_
  rintro e w5 ⟨m, rfl, ke, f1, h1⟩
  have R5 := hide (R4.out.fx f1 h1)
  have G5 := hide (grown_on G4.out f1.g)
  have Hke := hide (ke.low G4.out.size)
  clear f1 h1 ke
  go_wp2_with (refine store_mid rfl _ _ _ rfl X 3 (evC v m).toArray rfl rfl (R5.out.there 3 13 (by decide)) (by kernel_rfl) (by kernel_rfl) ?_)
  have R6 := hide (show RS B X (w5.setCells X 3 (evC v m)) (dC ⟨1, (i, j), v, [], 0, 0, b0⟩ ⟨m, none, 0, mZ⟩) _ from R5.out.sets 3 (evC v m) [.int .i64 1, .int .i64 i, .int .i64 j] (evC e0 mZ) _ rfl rfl rfl)
  have G6 := hide (grown_on G5.out (grown_setCells (evC v m) w5 X 3))
  replace Hke := hide (Hke.out.go (grown_setCells (evC v m) w5 X 3) HX.out)
  generalize hW : w5.setCells X 3 (evC v m) = w6 at *
  clear hW
  go_wp2_with fail
  go_end0
  exact ⟨⟨m, none, 0, mZ⟩, _, rfl, R6.out, ⟨Hke.out, KC.nil _ _, EvF.nil _ _⟩, G6.out⟩
set_option maxRecDepth 100000 in
set_option maxHeartbeats 6400000 in
set_option linter.unusedSimpArgs false in
theorem fields2 (B X : Nat) (t : Tx) (w : World) (h : RS B X w (dC d0 mD) t) (hk : (num t).1 = 2) (i j : Int) (v : Ev.E) (t1 t2 t3 : Tx) (h1 : (num t).2 = t1) (h2 : idnE t1 = ((i, j), t2)) (h3 : evtE t2 = (v, t3)) :
    Calls Tryz.prog 54 #[.pointer (some ⟨X, 0, none⟩)] w (RdF B X w (⟨2, (i, j), v, [], 0, 0, b0⟩)) := by
  have hmf : ∀ (fn : Fn) (first cap : Array Value) (w : World), (Instr.makeFunc fn first cap).run Tryz.prog w = .ok (.func fn first cap) w := fun _ _ _ _ => rfl
  have HX := hide h.rd.lt
  have N0 := hide (number_any B X 35 t w h.rd)
  have R0 := hide h
  rw [hk, h1] at N0
  have HI := hide (fun w h => rdId_any B X 35 t1 w h)
  rw [h2] at HI
  dsimp only at HI
  have HV := hide (fun w h => revent_any B X 35 t2 w h)
  rw [h3] at HV
  dsimp only at HV
  clear hk h1 h2 h3
  clear h
  go_enter Tryz.func54, Tryz.ntmps54
  go_wp2_with fail
  refine N0.out.mono ?_
  rintro e w1 ⟨rfl, f1, h1⟩
  have R1 := hide (R0.out.fx f1 h1)
  have G1 := hide f1.g
  have c0 := R1.out.cell 0 _ rfl
  have z0 := R1.out.fz 0
  clear f1 h1
  go_wp2_with fail
  have R2 := hide (show RS B X (w1.setCell ⟨X, 0, none⟩ (.int .i64 2)) (dC ⟨2, (0, 0), e0, [], 0, 0, b0⟩ mD) _ from R1.out.set 0 (.int .i64 2) (by decide))
  have G2 := hide (grown_on G1.out (grown_setX w1 X 0 (.int .i64 2)))
  generalize hW : w1.setCell ⟨X, 0, none⟩ (.int .i64 2) = w2 at *
  clear hW
  clear c0 z0
  refine (HI.out w2 R2.out.rd).mono ?_
  rintro e w3 ⟨rfl, f1, h1⟩
  have R3 := hide (R2.out.fx f1 h1)
  have G3 := hide (grown_on G2.out f1.g)
  clear f1 h1
  go_wp2_with (refine store_mid rfl _ _ _ rfl X 1 #[.int .i64 i, .int .i64 j] rfl rfl (R3.out.there 1 2 (by decide)) (by kernel_rfl) (by kernel_rfl) ?_)
  have R4 := hide (show RS B X (w3.setCells X 1 [.int .i64 i, .int .i64 j]) (dC ⟨2, (i, j), e0, [], 0, 0, b0⟩ mD) _ from R3.out.sets 1 [.int .i64 i, .int .i64 j] [.int .i64 2] [.int .i64 0, .int .i64 0] _ rfl rfl rfl)
  have G4 := hide (grown_on G3.out (grown_setCells [.int .i64 i, .int .i64 j] w3 X 1))
  generalize hW : w3.setCells X 1 [.int .i64 i, .int .i64 j] = w4 at *
  clear hW
  go_wp2_with fail
  refine (HV.out w4 R4.out.rd).mono ?_
  rintro e w5 ⟨m, rfl, ke, f1, h1⟩
  have R5 := hide (R4.out.fx f1 h1)
  have G5 := hide (grown_on G4.out f1.g)
  have Hke := hide (ke.low G4.out.size)
  clear f1 h1 ke
  go_wp2_with (refine store_mid rfl _ _ _ rfl X 3 (evC v m).toArray rfl rfl (R5.out.there 3 13 (by decide)) (by kernel_rfl) (by kernel_rfl) ?_)
  have R6 := hide (show RS B X (w5.setCells X 3 (evC v m)) (dC ⟨2, (i, j), v, [], 0, 0, b0⟩ ⟨m, none, 0, mZ⟩) _ from R5.out.sets 3 (evC v m) [.int .i64 2, .int .i64 i, .int .i64 j] (evC e0 mZ) _ rfl rfl rfl)
  have G6 := hide (grown_on G5.out (grown_setCells (evC v m) w5 X 3))
  replace Hke := hide (Hke.out.go (grown_setCells (evC v m) w5 X 3) HX.out)
  generalize hW : w5.setCells X 3 (evC v m) = w6 at *
  clear hW
  go_wp2_with fail
  go_end0
  exact ⟨⟨m, none, 0, mZ⟩, _, rfl, R6.out, ⟨Hke.out, KC.nil _ _, EvF.nil _ _⟩, G6.out⟩
set_option maxRecDepth 100000 in
set_option maxHeartbeats 6400000 in
set_option linter.unusedSimpArgs false in
theorem fields5 (B X : Nat) (t : Tx) (w : World) (h : RS B X w (dC d0 mD) t) (hk : (num t).1 = 5) (pe nn : Int) (t1 t2 t3 : Tx) (h1 : (num t).2 = t1) (h2 : num t1 = (pe, t2)) (h3 : num t2 = (nn, t3)) (cl : List C) (t4 : Tx) (h4 : lst clm t3 = (cl, t4)) :
    Calls Tryz.prog 54 #[.pointer (some ⟨X, 0, none⟩)] w (RdF B X w (⟨5, (0, 0), e0, cl, pe, nn, b0⟩)) := by
  have hmf : ∀ (fn : Fn) (first cap : Array Value) (w : World), (Instr.makeFunc fn first cap).run Tryz.prog w = .ok (.func fn first cap) w := fun _ _ _ _ => rfl
  have HX := hide h.rd.lt
  have N0 := hide (number_any B X 35 t w h.rd)
  have R0 := hide h
  rw [hk, h1] at N0
  have HP := hide (fun w h => number_any B X 35 t1 w h)
  rw [h2] at HP
  dsimp only at HP
  have HN := hide (fun w h => number_any B X 35 t2 w h)
  rw [h3] at HN
  dsimp only at HN
  have HC := hide (fun w h => cls_any B X 35 t3 w h)
  rw [h4] at HC
  dsimp only at HC
  clear hk h1 h2 h3 h4
  clear h
  go_enter Tryz.func54, Tryz.ntmps54
  go_wp2_with fail
  refine N0.out.mono ?_
  rintro e w1 ⟨rfl, f1, h1⟩
  have R1 := hide (R0.out.fx f1 h1)
  have G1 := hide f1.g
  have c0 := R1.out.cell 0 _ rfl
  have z0 := R1.out.fz 0
  clear f1 h1
  go_wp2_with fail
  have R2 := hide (show RS B X (w1.setCell ⟨X, 0, none⟩ (.int .i64 5)) (dC ⟨5, (0, 0), e0, [], 0, 0, b0⟩ mD) _ from R1.out.set 0 (.int .i64 5) (by decide))
  have G2 := hide (grown_on G1.out (grown_setX w1 X 0 (.int .i64 5)))
  generalize hW : w1.setCell ⟨X, 0, none⟩ (.int .i64 5) = w2 at *
  clear hW
  clear c0 z0
  go_wp2_with fail
  have RD := hide (R2.out.drew)
  have GD := hide (grown_on G2.out (grown_drew w2))
  refine wp_region_held_drew (S := fun _ => True) (by kernel_rfl) ?_ (fun hH0 => ?_)
  · exact trivial
  refine' wpAnyH_take (i := 0) (oi := _) (v := ?v0) rfl (by as_aux_lemma => kernel_rfl) (by as_aux_lemma => kernel_rfl) (by as_aux_lemma => kernel_rfl) (fun _ _ _ h => h) (Or.inl ⟨by rfl, ?y0⟩) hH0 ?r0
  case y0 => (intro w hSw; (try dsimp only at hSw); go_simp; (try with_reducible rfl))
  try simp only [Act.put, List.getElem_toArray, List.getElem_cons_succ, List.getElem_cons_zero, List.setIfInBounds_toArray, List.set_cons_zero, List.set_cons_succ]
  refine' wpAnyH_take (i := 1) (oi := _) (v := ?v1) rfl (by as_aux_lemma => kernel_rfl) (by as_aux_lemma => kernel_rfl) (by as_aux_lemma => kernel_rfl) (fun _ _ _ h => h) (Or.inl ⟨by rfl, ?y1⟩) hH0 ?r1
  case y1 => (intro w hSw; (try dsimp only at hSw); go_simp; (try with_reducible rfl))
  try simp only [Act.put, List.getElem_toArray, List.getElem_cons_succ, List.getElem_cons_zero, List.setIfInBounds_toArray, List.set_cons_zero, List.set_cons_succ]
  refine' wpAnyH_take (i := 2) (oi := _) (v := ?v2) rfl (by as_aux_lemma => kernel_rfl) (by as_aux_lemma => kernel_rfl) (by as_aux_lemma => kernel_rfl) (fun _ _ _ h => h) (Or.inl ⟨by rfl, ?y2⟩) hH0 ?r2
  case y2 => (intro w hSw; (try dsimp only at hSw); go_simp; (try with_reducible rfl))
  try simp only [Act.put, List.getElem_toArray, List.getElem_cons_succ, List.getElem_cons_zero, List.setIfInBounds_toArray, List.set_cons_zero, List.set_cons_succ]
  refine' wpAnyH_take (i := 3) (oi := _) (v := ?v3) rfl (by as_aux_lemma => kernel_rfl) (by as_aux_lemma => kernel_rfl) (by as_aux_lemma => kernel_rfl) (fun _ _ _ h => h) (Or.inl ⟨by rfl, ?y3⟩) hH0 ?r3
  case y3 => (intro w hSw; (try dsimp only at hSw); go_simp; (try with_reducible rfl))
  try simp only [Act.put, List.getElem_toArray, List.getElem_cons_succ, List.getElem_cons_zero, List.setIfInBounds_toArray, List.set_cons_zero, List.set_cons_succ]
  refine' wpAnyH_take (i := 4) (oi := _) (v := ?v4) rfl (by as_aux_lemma => kernel_rfl) (by as_aux_lemma => kernel_rfl) (by as_aux_lemma => kernel_rfl) (fun _ _ _ h => h) (Or.inl ⟨by rfl, ?y4⟩) hH0 ?r4
  case y4 => (intro w hSw; (try dsimp only at hSw); go_simp; (try with_reducible rfl))
  try simp only [Act.put, List.getElem_toArray, List.getElem_cons_succ, List.getElem_cons_zero, List.setIfInBounds_toArray, List.set_cons_zero, List.set_cons_succ]
  refine' wpAnyH_take (i := 6) (oi := _) (v := ?v5) rfl (by as_aux_lemma => kernel_rfl) (by as_aux_lemma => kernel_rfl) (by as_aux_lemma => kernel_rfl) (fun _ _ _ h => h) (Or.inl ⟨by rfl, ?y5⟩) hH0 ?r5
  case y5 => (intro w hSw; (try dsimp only at hSw); go_simp; (try with_reducible rfl))
  try simp only [Act.put, List.getElem_toArray, List.getElem_cons_succ, List.getElem_cons_zero, List.setIfInBounds_toArray, List.set_cons_zero, List.set_cons_succ]
  refine' wpAnyH_take (i := 7) (oi := _) (v := ?v6) rfl (by as_aux_lemma => kernel_rfl) (by as_aux_lemma => kernel_rfl) (by as_aux_lemma => kernel_rfl) (fun _ _ _ h => h) (Or.inl ⟨by rfl, ?y6⟩) hH0 ?r6
  case y6 => (intro w hSw; (try dsimp only at hSw); go_simp; (try with_reducible rfl))
  try simp only [Act.put, List.getElem_toArray, List.getElem_cons_succ, List.getElem_cons_zero, List.setIfInBounds_toArray, List.set_cons_zero, List.set_cons_succ]
  refine' wpAnyH_take (i := 8) (oi := _) (v := ?v7) rfl (by as_aux_lemma => kernel_rfl) (by as_aux_lemma => kernel_rfl) (by as_aux_lemma => kernel_rfl) (fun _ _ _ h => h) (Or.inl ⟨by rfl, ?y7⟩) hH0 ?r7
  case y7 => (intro w hSw; (try dsimp only at hSw); go_simp; (try with_reducible rfl))
  try simp only [Act.put, List.getElem_toArray, List.getElem_cons_succ, List.getElem_cons_zero, List.setIfInBounds_toArray, List.set_cons_zero, List.set_cons_succ]
  refine wpAnyH_ready (rs := [5]) (by as_aux_lemma => kernel_rfl) (by simp) ?_
  refine AllReadyH.cons (o := _) rfl (fun K hK => ?_) AllReadyH.nil
  go_simp
  refine (HP.out _ RD.out.rd).mono ?_
  rintro e w3 ⟨rfl, f1, h1⟩
  have RA := hide (RD.out.fx f1 h1)
  have GA := hide (grown_on GD.out f1.g)
  clear f1 h1
  refine hK.out _ _ (trivial) (fun hN => ?_)
  clear hK K hH0
  have hH1 := hN
  clear hN
  try simp only [Act.put, List.getElem_toArray, List.getElem_cons_succ, List.getElem_cons_zero, List.setIfInBounds_toArray, List.set_cons_zero, List.set_cons_succ]
  refine wpAnyH_ready (rs := [9]) (by as_aux_lemma => kernel_rfl) (by simp) ?_
  refine AllReadyH.cons (o := _) rfl (fun K hK => ?_) AllReadyH.nil
  go_simp
  refine (HN.out _ RA.out.rd).mono ?_
  rintro e w4 ⟨rfl, f1, h1⟩
  have RB := hide (RA.out.fx f1 h1)
  have GB := hide (grown_on GA.out f1.g)
  have c17 := RB.out.cell 17 _ rfl
  have z17 := RB.out.fz 17
  clear f1 h1
  refine hK.out _ _ (trivial) (fun hN => ?_)
  clear hK K hH1
  have hH2 := hN
  clear hN
  try simp only [Act.put, List.getElem_toArray, List.getElem_cons_succ, List.getElem_cons_zero, List.setIfInBounds_toArray, List.set_cons_zero, List.set_cons_succ]
  refine' wpAnyH_take (i := 10) (oi := _) (v := ?v8) rfl (by as_aux_lemma => kernel_rfl) (by as_aux_lemma => kernel_rfl) (by as_aux_lemma => kernel_rfl) (fun _ _ _ h => h) (Or.inl ⟨by rfl, ?y8⟩) hH2 ?r8
  case y8 => (intro w hSw; (try dsimp only at hSw); go_simp; (try with_reducible rfl))
  try simp only [Act.put, List.getElem_toArray, List.getElem_cons_succ, List.getElem_cons_zero, List.setIfInBounds_toArray, List.set_cons_zero, List.set_cons_succ]
  refine' wpAnyH_take (i := 11) (oi := _) (v := ?v9) rfl (by as_aux_lemma => kernel_rfl) (by as_aux_lemma => kernel_rfl) (by as_aux_lemma => kernel_rfl) (fun _ _ _ h => h) (Or.inl ⟨by rfl, ?y9⟩) hH2 ?r9
  case y9 => (intro w hSw; (try dsimp only at hSw); go_simp; (try with_reducible rfl))
  try simp only [Act.put, List.getElem_toArray, List.getElem_cons_succ, List.getElem_cons_zero, List.setIfInBounds_toArray, List.set_cons_zero, List.set_cons_succ]
  refine' wpAnyH_take (i := 12) (oi := _) (v := ?v10) rfl (by as_aux_lemma => kernel_rfl) (by as_aux_lemma => kernel_rfl) (by as_aux_lemma => kernel_rfl) (fun _ _ _ h => h) (Or.inl ⟨by rfl, ?y10⟩) hH2 ?r10
  case y10 => (intro w hSw; (try dsimp only at hSw); go_simp; (try with_reducible rfl))
  try simp only [Act.put, List.getElem_toArray, List.getElem_cons_succ, List.getElem_cons_zero, List.setIfInBounds_toArray, List.set_cons_zero, List.set_cons_succ]
  refine wpAnyH_ready (rs := [13]) (by as_aux_lemma => kernel_rfl) (by simp) ?_
  refine AllReadyH.cons (o := _) rfl (fun K hK => ?_) AllReadyH.nil
  go_simp
  have RC := hide (show RS B X (w4.setCell ⟨X, 17, none⟩ (.int .i64 pe)) (dC ⟨5, (0, 0), e0, [], pe, 0, b0⟩ mD) _ from RB.out.set 17 (.int .i64 pe) (by decide))
  have c18 := RC.out.cell 18 _ rfl
  have z18 := RC.out.fz 18
  refine hK.out _ _ (trivial) (fun hN => ?_)
  clear hK K hH2
  have hH3 := hN
  clear hN
  try simp only [Act.put, List.getElem_toArray, List.getElem_cons_succ, List.getElem_cons_zero, List.setIfInBounds_toArray, List.set_cons_zero, List.set_cons_succ]
  refine' wpAnyH_take (i := 14) (oi := _) (v := ?v11) rfl (by as_aux_lemma => kernel_rfl) (by as_aux_lemma => kernel_rfl) (by as_aux_lemma => kernel_rfl) (fun _ _ _ h => h) (Or.inl ⟨by rfl, ?y11⟩) hH3 ?r11
  case y11 => (intro w hSw; (try dsimp only at hSw); go_simp; (try with_reducible rfl))
  try simp only [Act.put, List.getElem_toArray, List.getElem_cons_succ, List.getElem_cons_zero, List.setIfInBounds_toArray, List.set_cons_zero, List.set_cons_succ]
  refine' wpAnyH_take (i := 15) (oi := _) (v := ?v12) rfl (by as_aux_lemma => kernel_rfl) (by as_aux_lemma => kernel_rfl) (by as_aux_lemma => kernel_rfl) (fun _ _ _ h => h) (Or.inl ⟨by rfl, ?y12⟩) hH3 ?r12
  case y12 => (intro w hSw; (try dsimp only at hSw); go_simp; (try with_reducible rfl))
  try simp only [Act.put, List.getElem_toArray, List.getElem_cons_succ, List.getElem_cons_zero, List.setIfInBounds_toArray, List.set_cons_zero, List.set_cons_succ]
  refine' wpAnyH_take (i := 16) (oi := _) (v := ?v13) rfl (by as_aux_lemma => kernel_rfl) (by as_aux_lemma => kernel_rfl) (by as_aux_lemma => kernel_rfl) (fun _ _ _ h => h) (Or.inl ⟨by rfl, ?y13⟩) hH3 ?r13
  case y13 => (intro w hSw; (try dsimp only at hSw); go_simp; (try with_reducible rfl))
  try simp only [Act.put, List.getElem_toArray, List.getElem_cons_succ, List.getElem_cons_zero, List.setIfInBounds_toArray, List.set_cons_zero, List.set_cons_succ]
  refine wpAnyH_ready (rs := [17]) (by as_aux_lemma => kernel_rfl) (by simp) ?_
  refine AllReadyH.cons (o := _) rfl (fun K hK => ?_) AllReadyH.nil
  go_simp
  have RE := hide (show RS B X ((w4.setCell ⟨X, 17, none⟩ (.int .i64 pe)).setCell ⟨X, 18, none⟩ (.int .i64 nn)) (dC ⟨5, (0, 0), e0, [], pe, nn, b0⟩ mD) _ from RC.out.set 18 (.int .i64 nn) (by decide))
  refine hK.out _ _ (trivial) (fun hN => ?_)
  clear hK K hH3
  have hH4 := hN
  clear hN
  try simp only [Act.put, List.getElem_toArray, List.getElem_cons_succ, List.getElem_cons_zero, List.setIfInBounds_toArray, List.set_cons_zero, List.set_cons_succ]
  refine wpAnyH_done (by as_aux_lemma => kernel_rfl) ?_ _
  have R5 := RE
  have G5 := hide (grown_on (grown_on GB.out (grown_setX w4 X 17 (.int .i64 pe))) (grown_setX _ X 18 (.int .i64 nn)))
  clear c17 z17 c18 z18 RA RB RC RD RE GA GB GD hH4
  generalize hW : (w4.setCell ⟨X, 17, none⟩ (.int .i64 pe)).setCell ⟨X, 18, none⟩ (.int .i64 nn) = w5 at *
  clear hW
  go_wp2_with fail
  have RD := hide (R5.out.drew)
  have GD := hide (grown_on G5.out (grown_drew w5))
  refine wp_region_held_drew (S := fun _ => True) (by kernel_rfl) ?_ (fun hH0 => ?_)
  · exact trivial
  refine' wpAnyH_take (i := 0) (oi := _) (v := ?v100) rfl (by as_aux_lemma => kernel_rfl) (by as_aux_lemma => kernel_rfl) (by as_aux_lemma => kernel_rfl) (fun _ _ _ h => h) (Or.inl ⟨by rfl, ?y100⟩) hH0 ?r100
  case y100 => (intro w hSw; (try dsimp only at hSw); go_simp; (try with_reducible rfl))
  try simp only [Act.put, List.getElem_toArray, List.getElem_cons_succ, List.getElem_cons_zero, List.setIfInBounds_toArray, List.set_cons_zero, List.set_cons_succ]
  refine' wpAnyH_take (i := 1) (oi := _) (v := ?v101) rfl (by as_aux_lemma => kernel_rfl) (by as_aux_lemma => kernel_rfl) (by as_aux_lemma => kernel_rfl) (fun _ _ _ h => h) (Or.inl ⟨by rfl, ?y101⟩) hH0 ?r101
  case y101 => (intro w hSw; (try dsimp only at hSw); go_simp; (try with_reducible rfl))
  try simp only [Act.put, List.getElem_toArray, List.getElem_cons_succ, List.getElem_cons_zero, List.setIfInBounds_toArray, List.set_cons_zero, List.set_cons_succ]
  refine' wpAnyH_take (i := 2) (oi := _) (v := ?v102) rfl (by as_aux_lemma => kernel_rfl) (by as_aux_lemma => kernel_rfl) (by as_aux_lemma => kernel_rfl) (fun _ _ _ h => h) (Or.inl ⟨by rfl, ?y102⟩) hH0 ?r102
  case y102 => (intro w hSw; (try dsimp only at hSw); go_simp; (try with_reducible rfl))
  try simp only [Act.put, List.getElem_toArray, List.getElem_cons_succ, List.getElem_cons_zero, List.setIfInBounds_toArray, List.set_cons_zero, List.set_cons_succ]
  refine' wpAnyH_take (i := 3) (oi := _) (v := ?v103) rfl (by as_aux_lemma => kernel_rfl) (by as_aux_lemma => kernel_rfl) (by as_aux_lemma => kernel_rfl) (fun _ _ _ h => h) (Or.inl ⟨by rfl, ?y103⟩) hH0 ?r103
  case y103 => (intro w hSw; (try dsimp only at hSw); go_simp; (try with_reducible rfl))
  try simp only [Act.put, List.getElem_toArray, List.getElem_cons_succ, List.getElem_cons_zero, List.setIfInBounds_toArray, List.set_cons_zero, List.set_cons_succ]
  refine' wpAnyH_take (i := 4) (oi := _) (v := ?v104) rfl (by as_aux_lemma => kernel_rfl) (by as_aux_lemma => kernel_rfl) (by as_aux_lemma => kernel_rfl) (fun _ _ _ h => h) (Or.inl ⟨by rfl, ?y104⟩) hH0 ?r104
  case y104 => (intro w hSw; (try dsimp only at hSw); go_simp; (try with_reducible rfl))
  try simp only [Act.put, List.getElem_toArray, List.getElem_cons_succ, List.getElem_cons_zero, List.setIfInBounds_toArray, List.set_cons_zero, List.set_cons_succ]
  refine' wpAnyH_take (i := 5) (oi := _) (v := ?v105) rfl (by as_aux_lemma => kernel_rfl) (by as_aux_lemma => kernel_rfl) (by as_aux_lemma => kernel_rfl) (fun _ _ _ h => h) (Or.inl ⟨by rfl, ?y105⟩) hH0 ?r105
  case y105 => (intro w hSw; (try dsimp only at hSw); go_simp; (try with_reducible rfl))
  try simp only [Act.put, List.getElem_toArray, List.getElem_cons_succ, List.getElem_cons_zero, List.setIfInBounds_toArray, List.set_cons_zero, List.set_cons_succ]
  refine' wpAnyH_take (i := 6) (oi := _) (v := ?v106) rfl (by as_aux_lemma => kernel_rfl) (by as_aux_lemma => kernel_rfl) (by as_aux_lemma => kernel_rfl) (fun _ _ _ h => h) (Or.inl ⟨by rfl, ?y106⟩) hH0 ?r106
  case y106 => (intro w hSw; (try dsimp only at hSw); go_simp; (try with_reducible rfl))
  try simp only [Act.put, List.getElem_toArray, List.getElem_cons_succ, List.getElem_cons_zero, List.setIfInBounds_toArray, List.set_cons_zero, List.set_cons_succ]
  refine' wpAnyH_take (i := 7) (oi := _) (v := (.func (.func 77) #[.pointer (some ⟨X, 35, none⟩)] #[])) rfl (by as_aux_lemma => kernel_rfl) (by as_aux_lemma => kernel_rfl) (by as_aux_lemma => kernel_rfl) (fun _ _ _ h => h) (Or.inl ⟨by rfl, ?y107⟩) hH0 ?r107
  case y107 => (intro w hSw; (try dsimp only at hSw); go_simp; skip)
  try simp only [Act.put, List.getElem_toArray, List.getElem_cons_succ, List.getElem_cons_zero, List.setIfInBounds_toArray, List.set_cons_zero, List.set_cons_succ]
  refine wpAnyH_ready (rs := [8]) (by as_aux_lemma => kernel_rfl) (by simp) ?_
  refine AllReadyH.cons (o := _) rfl (fun K hK => ?_) AllReadyH.nil
  go_simp
  refine (HC.out _ RD.out.rd).mono ?_
  rintro e w6 ⟨A, c, rfl, kc, f1, h1⟩
  have RA := hide (RD.out.fx f1 h1)
  have GA := hide (grown_on GD.out f1.g)
  have HK := hide (kc.low GD.out.size)
  have c16 := RA.out.cell 16 _ rfl
  have z16 := RA.out.fz 16
  clear f1 h1 kc
  refine hK.out _ _ (trivial) (fun hN => ?_)
  clear hK K hH0
  have hH1 := hN
  clear hN
  try simp only [Act.put, List.getElem_toArray, List.getElem_cons_succ, List.getElem_cons_zero, List.setIfInBounds_toArray, List.set_cons_zero, List.set_cons_succ]
  refine' wpAnyH_take (i := 9) (oi := _) (v := ?v108) rfl (by as_aux_lemma => kernel_rfl) (by as_aux_lemma => kernel_rfl) (by as_aux_lemma => kernel_rfl) (fun _ _ _ h => h) (Or.inl ⟨by rfl, ?y108⟩) hH1 ?r108
  case y108 => (intro w hSw; (try dsimp only at hSw); go_simp; (try with_reducible rfl))
  try simp only [Act.put, List.getElem_toArray, List.getElem_cons_succ, List.getElem_cons_zero, List.setIfInBounds_toArray, List.set_cons_zero, List.set_cons_succ]
  refine' wpAnyH_take (i := 10) (oi := _) (v := ?v109) rfl (by as_aux_lemma => kernel_rfl) (by as_aux_lemma => kernel_rfl) (by as_aux_lemma => kernel_rfl) (fun _ _ _ h => h) (Or.inl ⟨by rfl, ?y109⟩) hH1 ?r109
  case y109 => (intro w hSw; (try dsimp only at hSw); go_simp; (try with_reducible rfl))
  try simp only [Act.put, List.getElem_toArray, List.getElem_cons_succ, List.getElem_cons_zero, List.setIfInBounds_toArray, List.set_cons_zero, List.set_cons_succ]
  refine' wpAnyH_take (i := 11) (oi := _) (v := ?v110) rfl (by as_aux_lemma => kernel_rfl) (by as_aux_lemma => kernel_rfl) (by as_aux_lemma => kernel_rfl) (fun _ _ _ h => h) (Or.inl ⟨by rfl, ?y110⟩) hH1 ?r110
  case y110 => (intro w hSw; (try dsimp only at hSw); go_simp; (try with_reducible rfl))
  try simp only [Act.put, List.getElem_toArray, List.getElem_cons_succ, List.getElem_cons_zero, List.setIfInBounds_toArray, List.set_cons_zero, List.set_cons_succ]
  refine wpAnyH_ready (rs := [12]) (by as_aux_lemma => kernel_rfl) (by simp) ?_
  refine AllReadyH.cons (o := _) rfl (fun K hK => ?_) AllReadyH.nil
  go_simp
  have RB := hide (show RS B X (w6.setCell ⟨X, 16, none⟩ (.slice A cl.length c)) (dC ⟨5, (0, 0), e0, cl, pe, nn, b0⟩ ⟨mZ, A, c, mZ⟩) _ from RA.out.set 16 (.slice A cl.length c) (by decide))
  refine hK.out _ _ (trivial) (fun hN => ?_)
  clear hK K hH1
  have hH2 := hN
  clear hN
  try simp only [Act.put, List.getElem_toArray, List.getElem_cons_succ, List.getElem_cons_zero, List.setIfInBounds_toArray, List.set_cons_zero, List.set_cons_succ]
  refine wpAnyH_done (by as_aux_lemma => kernel_rfl) ?_ _
  have R7 := RB
  have G7 := hide (grown_on GA.out (grown_setX w6 X 16 (.slice A cl.length c)))
  replace HK := hide (HK.out.go (grown_setX w6 X 16 (.slice A cl.length c)) HX.out)
  clear c16 z16 RA RB RD GA GD hH2
  generalize hW : w6.setCell ⟨X, 16, none⟩ (.slice A cl.length c) = w7 at *
  clear hW
  go_wp2_with fail
  go_end0
  exact ⟨⟨mZ, A, c, mZ⟩, _, rfl, R7.out, ⟨EvF.nil _ _, HK.out, EvF.nil _ _⟩, G7.out⟩
set_option maxRecDepth 100000 in
set_option maxHeartbeats 6400000 in
set_option linter.unusedSimpArgs false in
theorem fields6 (B X : Nat) (t : Tx) (w : World) (h : RS B X w (dC d0 mD) t) (hk : (num t).1 = 6) (pe nn : Int) (t1 t2 t3 : Tx) (h1 : (num t).2 = t1) (h2 : num t1 = (pe, t2)) (h3 : num t2 = (nn, t3)) (cl : List C) (t4 : Tx) (h4 : lst clm t3 = (cl, t4)) :
    Calls Tryz.prog 54 #[.pointer (some ⟨X, 0, none⟩)] w (RdF B X w (⟨6, (0, 0), e0, cl, pe, nn, b0⟩)) := by
  have hmf : ∀ (fn : Fn) (first cap : Array Value) (w : World), (Instr.makeFunc fn first cap).run Tryz.prog w = .ok (.func fn first cap) w := fun _ _ _ _ => rfl
  have HX := hide h.rd.lt
  have N0 := hide (number_any B X 35 t w h.rd)
  have R0 := hide h
  rw [hk, h1] at N0
  have HP := hide (fun w h => number_any B X 35 t1 w h)
  rw [h2] at HP
  dsimp only at HP
  have HN := hide (fun w h => number_any B X 35 t2 w h)
  rw [h3] at HN
  dsimp only at HN
  have HC := hide (fun w h => cls_any B X 35 t3 w h)
  rw [h4] at HC
  dsimp only at HC
  clear hk h1 h2 h3 h4
  clear h
  go_enter Tryz.func54, Tryz.ntmps54
  go_wp2_with fail
  refine N0.out.mono ?_
  rintro e w1 ⟨rfl, f1, h1⟩
  have R1 := hide (R0.out.fx f1 h1)
  have G1 := hide f1.g
  have c0 := R1.out.cell 0 _ rfl
  have z0 := R1.out.fz 0
  clear f1 h1
  go_wp2_with fail
  have R2 := hide (show RS B X (w1.setCell ⟨X, 0, none⟩ (.int .i64 6)) (dC ⟨6, (0, 0), e0, [], 0, 0, b0⟩ mD) _ from R1.out.set 0 (.int .i64 6) (by decide))
  have G2 := hide (grown_on G1.out (grown_setX w1 X 0 (.int .i64 6)))
  generalize hW : w1.setCell ⟨X, 0, none⟩ (.int .i64 6) = w2 at *
  clear hW
  clear c0 z0
  go_wp2_with fail
  have RD := hide (R2.out.drew)
  have GD := hide (grown_on G2.out (grown_drew w2))
  refine wp_region_held_drew (S := fun _ => True) (by kernel_rfl) ?_ (fun hH0 => ?_)
  · exact trivial
  refine' wpAnyH_take (i := 0) (oi := _) (v := ?v0) rfl (by as_aux_lemma => kernel_rfl) (by as_aux_lemma => kernel_rfl) (by as_aux_lemma => kernel_rfl) (fun _ _ _ h => h) (Or.inl ⟨by rfl, ?y0⟩) hH0 ?r0
  case y0 => (intro w hSw; (try dsimp only at hSw); go_simp; (try with_reducible rfl))
  try simp only [Act.put, List.getElem_toArray, List.getElem_cons_succ, List.getElem_cons_zero, List.setIfInBounds_toArray, List.set_cons_zero, List.set_cons_succ]
  refine' wpAnyH_take (i := 1) (oi := _) (v := ?v1) rfl (by as_aux_lemma => kernel_rfl) (by as_aux_lemma => kernel_rfl) (by as_aux_lemma => kernel_rfl) (fun _ _ _ h => h) (Or.inl ⟨by rfl, ?y1⟩) hH0 ?r1
  case y1 => (intro w hSw; (try dsimp only at hSw); go_simp; (try with_reducible rfl))
  try simp only [Act.put, List.getElem_toArray, List.getElem_cons_succ, List.getElem_cons_zero, List.setIfInBounds_toArray, List.set_cons_zero, List.set_cons_succ]
  refine' wpAnyH_take (i := 2) (oi := _) (v := ?v2) rfl (by as_aux_lemma => kernel_rfl) (by as_aux_lemma => kernel_rfl) (by as_aux_lemma => kernel_rfl) (fun _ _ _ h => h) (Or.inl ⟨by rfl, ?y2⟩) hH0 ?r2
  case y2 => (intro w hSw; (try dsimp only at hSw); go_simp; (try with_reducible rfl))
  try simp only [Act.put, List.getElem_toArray, List.getElem_cons_succ, List.getElem_cons_zero, List.setIfInBounds_toArray, List.set_cons_zero, List.set_cons_succ]
  refine' wpAnyH_take (i := 3) (oi := _) (v := ?v3) rfl (by as_aux_lemma => kernel_rfl) (by as_aux_lemma => kernel_rfl) (by as_aux_lemma => kernel_rfl) (fun _ _ _ h => h) (Or.inl ⟨by rfl, ?y3⟩) hH0 ?r3
  case y3 => (intro w hSw; (try dsimp only at hSw); go_simp; (try with_reducible rfl))
  try simp only [Act.put, List.getElem_toArray, List.getElem_cons_succ, List.getElem_cons_zero, List.setIfInBounds_toArray, List.set_cons_zero, List.set_cons_succ]
  refine' wpAnyH_take (i := 4) (oi := _) (v := ?v4) rfl (by as_aux_lemma => kernel_rfl) (by as_aux_lemma => kernel_rfl) (by as_aux_lemma => kernel_rfl) (fun _ _ _ h => h) (Or.inl ⟨by rfl, ?y4⟩) hH0 ?r4
  case y4 => (intro w hSw; (try dsimp only at hSw); go_simp; (try with_reducible rfl))
  try simp only [Act.put, List.getElem_toArray, List.getElem_cons_succ, List.getElem_cons_zero, List.setIfInBounds_toArray, List.set_cons_zero, List.set_cons_succ]
  refine' wpAnyH_take (i := 6) (oi := _) (v := ?v5) rfl (by as_aux_lemma => kernel_rfl) (by as_aux_lemma => kernel_rfl) (by as_aux_lemma => kernel_rfl) (fun _ _ _ h => h) (Or.inl ⟨by rfl, ?y5⟩) hH0 ?r5
  case y5 => (intro w hSw; (try dsimp only at hSw); go_simp; (try with_reducible rfl))
  try simp only [Act.put, List.getElem_toArray, List.getElem_cons_succ, List.getElem_cons_zero, List.setIfInBounds_toArray, List.set_cons_zero, List.set_cons_succ]
  refine' wpAnyH_take (i := 7) (oi := _) (v := ?v6) rfl (by as_aux_lemma => kernel_rfl) (by as_aux_lemma => kernel_rfl) (by as_aux_lemma => kernel_rfl) (fun _ _ _ h => h) (Or.inl ⟨by rfl, ?y6⟩) hH0 ?r6
  case y6 => (intro w hSw; (try dsimp only at hSw); go_simp; (try with_reducible rfl))
  try simp only [Act.put, List.getElem_toArray, List.getElem_cons_succ, List.getElem_cons_zero, List.setIfInBounds_toArray, List.set_cons_zero, List.set_cons_succ]
  refine' wpAnyH_take (i := 8) (oi := _) (v := ?v7) rfl (by as_aux_lemma => kernel_rfl) (by as_aux_lemma => kernel_rfl) (by as_aux_lemma => kernel_rfl) (fun _ _ _ h => h) (Or.inl ⟨by rfl, ?y7⟩) hH0 ?r7
  case y7 => (intro w hSw; (try dsimp only at hSw); go_simp; (try with_reducible rfl))
  try simp only [Act.put, List.getElem_toArray, List.getElem_cons_succ, List.getElem_cons_zero, List.setIfInBounds_toArray, List.set_cons_zero, List.set_cons_succ]
  refine wpAnyH_ready (rs := [5]) (by as_aux_lemma => kernel_rfl) (by simp) ?_
  refine AllReadyH.cons (o := _) rfl (fun K hK => ?_) AllReadyH.nil
  go_simp
  refine (HP.out _ RD.out.rd).mono ?_
  rintro e w3 ⟨rfl, f1, h1⟩
  have RA := hide (RD.out.fx f1 h1)
  have GA := hide (grown_on GD.out f1.g)
  clear f1 h1
  refine hK.out _ _ (trivial) (fun hN => ?_)
  clear hK K hH0
  have hH1 := hN
  clear hN
  try simp only [Act.put, List.getElem_toArray, List.getElem_cons_succ, List.getElem_cons_zero, List.setIfInBounds_toArray, List.set_cons_zero, List.set_cons_succ]
  refine wpAnyH_ready (rs := [9]) (by as_aux_lemma => kernel_rfl) (by simp) ?_
  refine AllReadyH.cons (o := _) rfl (fun K hK => ?_) AllReadyH.nil
  go_simp
  refine (HN.out _ RA.out.rd).mono ?_
  rintro e w4 ⟨rfl, f1, h1⟩
  have RB := hide (RA.out.fx f1 h1)
  have GB := hide (grown_on GA.out f1.g)
  have c17 := RB.out.cell 17 _ rfl
  have z17 := RB.out.fz 17
  clear f1 h1
  refine hK.out _ _ (trivial) (fun hN => ?_)
  clear hK K hH1
  have hH2 := hN
  clear hN
  try simp only [Act.put, List.getElem_toArray, List.getElem_cons_succ, List.getElem_cons_zero, List.setIfInBounds_toArray, List.set_cons_zero, List.set_cons_succ]
  refine' wpAnyH_take (i := 10) (oi := _) (v := ?v8) rfl (by as_aux_lemma => kernel_rfl) (by as_aux_lemma => kernel_rfl) (by as_aux_lemma => kernel_rfl) (fun _ _ _ h => h) (Or.inl ⟨by rfl, ?y8⟩) hH2 ?r8
  case y8 => (intro w hSw; (try dsimp only at hSw); go_simp; (try with_reducible rfl))
  try simp only [Act.put, List.getElem_toArray, List.getElem_cons_succ, List.getElem_cons_zero, List.setIfInBounds_toArray, List.set_cons_zero, List.set_cons_succ]
  refine' wpAnyH_take (i := 11) (oi := _) (v := ?v9) rfl (by as_aux_lemma => kernel_rfl) (by as_aux_lemma => kernel_rfl) (by as_aux_lemma => kernel_rfl) (fun _ _ _ h => h) (Or.inl ⟨by rfl, ?y9⟩) hH2 ?r9
  case y9 => (intro w hSw; (try dsimp only at hSw); go_simp; (try with_reducible rfl))
  try simp only [Act.put, List.getElem_toArray, List.getElem_cons_succ, List.getElem_cons_zero, List.setIfInBounds_toArray, List.set_cons_zero, List.set_cons_succ]
  refine' wpAnyH_take (i := 12) (oi := _) (v := ?v10) rfl (by as_aux_lemma => kernel_rfl) (by as_aux_lemma => kernel_rfl) (by as_aux_lemma => kernel_rfl) (fun _ _ _ h => h) (Or.inl ⟨by rfl, ?y10⟩) hH2 ?r10
  case y10 => (intro w hSw; (try dsimp only at hSw); go_simp; (try with_reducible rfl))
  try simp only [Act.put, List.getElem_toArray, List.getElem_cons_succ, List.getElem_cons_zero, List.setIfInBounds_toArray, List.set_cons_zero, List.set_cons_succ]
  refine wpAnyH_ready (rs := [13]) (by as_aux_lemma => kernel_rfl) (by simp) ?_
  refine AllReadyH.cons (o := _) rfl (fun K hK => ?_) AllReadyH.nil
  go_simp
  have RC := hide (show RS B X (w4.setCell ⟨X, 17, none⟩ (.int .i64 pe)) (dC ⟨6, (0, 0), e0, [], pe, 0, b0⟩ mD) _ from RB.out.set 17 (.int .i64 pe) (by decide))
  have c18 := RC.out.cell 18 _ rfl
  have z18 := RC.out.fz 18
  refine hK.out _ _ (trivial) (fun hN => ?_)
  clear hK K hH2
  have hH3 := hN
  clear hN
  try simp only [Act.put, List.getElem_toArray, List.getElem_cons_succ, List.getElem_cons_zero, List.setIfInBounds_toArray, List.set_cons_zero, List.set_cons_succ]
  refine' wpAnyH_take (i := 14) (oi := _) (v := ?v11) rfl (by as_aux_lemma => kernel_rfl) (by as_aux_lemma => kernel_rfl) (by as_aux_lemma => kernel_rfl) (fun _ _ _ h => h) (Or.inl ⟨by rfl, ?y11⟩) hH3 ?r11
  case y11 => (intro w hSw; (try dsimp only at hSw); go_simp; (try with_reducible rfl))
  try simp only [Act.put, List.getElem_toArray, List.getElem_cons_succ, List.getElem_cons_zero, List.setIfInBounds_toArray, List.set_cons_zero, List.set_cons_succ]
  refine' wpAnyH_take (i := 15) (oi := _) (v := ?v12) rfl (by as_aux_lemma => kernel_rfl) (by as_aux_lemma => kernel_rfl) (by as_aux_lemma => kernel_rfl) (fun _ _ _ h => h) (Or.inl ⟨by rfl, ?y12⟩) hH3 ?r12
  case y12 => (intro w hSw; (try dsimp only at hSw); go_simp; (try with_reducible rfl))
  try simp only [Act.put, List.getElem_toArray, List.getElem_cons_succ, List.getElem_cons_zero, List.setIfInBounds_toArray, List.set_cons_zero, List.set_cons_succ]
  refine' wpAnyH_take (i := 16) (oi := _) (v := ?v13) rfl (by as_aux_lemma => kernel_rfl) (by as_aux_lemma => kernel_rfl) (by as_aux_lemma => kernel_rfl) (fun _ _ _ h => h) (Or.inl ⟨by rfl, ?y13⟩) hH3 ?r13
  case y13 => (intro w hSw; (try dsimp only at hSw); go_simp; (try with_reducible rfl))
  try simp only [Act.put, List.getElem_toArray, List.getElem_cons_succ, List.getElem_cons_zero, List.setIfInBounds_toArray, List.set_cons_zero, List.set_cons_succ]
  refine wpAnyH_ready (rs := [17]) (by as_aux_lemma => kernel_rfl) (by simp) ?_
  refine AllReadyH.cons (o := _) rfl (fun K hK => ?_) AllReadyH.nil
  go_simp
  have RE := hide (show RS B X ((w4.setCell ⟨X, 17, none⟩ (.int .i64 pe)).setCell ⟨X, 18, none⟩ (.int .i64 nn)) (dC ⟨6, (0, 0), e0, [], pe, nn, b0⟩ mD) _ from RC.out.set 18 (.int .i64 nn) (by decide))
  refine hK.out _ _ (trivial) (fun hN => ?_)
  clear hK K hH3
  have hH4 := hN
  clear hN
  try simp only [Act.put, List.getElem_toArray, List.getElem_cons_succ, List.getElem_cons_zero, List.setIfInBounds_toArray, List.set_cons_zero, List.set_cons_succ]
  refine wpAnyH_done (by as_aux_lemma => kernel_rfl) ?_ _
  have R5 := RE
  have G5 := hide (grown_on (grown_on GB.out (grown_setX w4 X 17 (.int .i64 pe))) (grown_setX _ X 18 (.int .i64 nn)))
  clear c17 z17 c18 z18 RA RB RC RD RE GA GB GD hH4
  generalize hW : (w4.setCell ⟨X, 17, none⟩ (.int .i64 pe)).setCell ⟨X, 18, none⟩ (.int .i64 nn) = w5 at *
  clear hW
  go_wp2_with fail
  have RD := hide (R5.out.drew)
  have GD := hide (grown_on G5.out (grown_drew w5))
  refine wp_region_held_drew (S := fun _ => True) (by kernel_rfl) ?_ (fun hH0 => ?_)
  · exact trivial
  refine' wpAnyH_take (i := 0) (oi := _) (v := ?v100) rfl (by as_aux_lemma => kernel_rfl) (by as_aux_lemma => kernel_rfl) (by as_aux_lemma => kernel_rfl) (fun _ _ _ h => h) (Or.inl ⟨by rfl, ?y100⟩) hH0 ?r100
  case y100 => (intro w hSw; (try dsimp only at hSw); go_simp; (try with_reducible rfl))
  try simp only [Act.put, List.getElem_toArray, List.getElem_cons_succ, List.getElem_cons_zero, List.setIfInBounds_toArray, List.set_cons_zero, List.set_cons_succ]
  refine' wpAnyH_take (i := 1) (oi := _) (v := ?v101) rfl (by as_aux_lemma => kernel_rfl) (by as_aux_lemma => kernel_rfl) (by as_aux_lemma => kernel_rfl) (fun _ _ _ h => h) (Or.inl ⟨by rfl, ?y101⟩) hH0 ?r101
  case y101 => (intro w hSw; (try dsimp only at hSw); go_simp; (try with_reducible rfl))
  try simp only [Act.put, List.getElem_toArray, List.getElem_cons_succ, List.getElem_cons_zero, List.setIfInBounds_toArray, List.set_cons_zero, List.set_cons_succ]
  refine' wpAnyH_take (i := 2) (oi := _) (v := ?v102) rfl (by as_aux_lemma => kernel_rfl) (by as_aux_lemma => kernel_rfl) (by as_aux_lemma => kernel_rfl) (fun _ _ _ h => h) (Or.inl ⟨by rfl, ?y102⟩) hH0 ?r102
  case y102 => (intro w hSw; (try dsimp only at hSw); go_simp; (try with_reducible rfl))
  try simp only [Act.put, List.getElem_toArray, List.getElem_cons_succ, List.getElem_cons_zero, List.setIfInBounds_toArray, List.set_cons_zero, List.set_cons_succ]
  refine' wpAnyH_take (i := 3) (oi := _) (v := ?v103) rfl (by as_aux_lemma => kernel_rfl) (by as_aux_lemma => kernel_rfl) (by as_aux_lemma => kernel_rfl) (fun _ _ _ h => h) (Or.inl ⟨by rfl, ?y103⟩) hH0 ?r103
  case y103 => (intro w hSw; (try dsimp only at hSw); go_simp; (try with_reducible rfl))
  try simp only [Act.put, List.getElem_toArray, List.getElem_cons_succ, List.getElem_cons_zero, List.setIfInBounds_toArray, List.set_cons_zero, List.set_cons_succ]
  refine' wpAnyH_take (i := 4) (oi := _) (v := ?v104) rfl (by as_aux_lemma => kernel_rfl) (by as_aux_lemma => kernel_rfl) (by as_aux_lemma => kernel_rfl) (fun _ _ _ h => h) (Or.inl ⟨by rfl, ?y104⟩) hH0 ?r104
  case y104 => (intro w hSw; (try dsimp only at hSw); go_simp; (try with_reducible rfl))
  try simp only [Act.put, List.getElem_toArray, List.getElem_cons_succ, List.getElem_cons_zero, List.setIfInBounds_toArray, List.set_cons_zero, List.set_cons_succ]
  refine' wpAnyH_take (i := 5) (oi := _) (v := ?v105) rfl (by as_aux_lemma => kernel_rfl) (by as_aux_lemma => kernel_rfl) (by as_aux_lemma => kernel_rfl) (fun _ _ _ h => h) (Or.inl ⟨by rfl, ?y105⟩) hH0 ?r105
  case y105 => (intro w hSw; (try dsimp only at hSw); go_simp; (try with_reducible rfl))
  try simp only [Act.put, List.getElem_toArray, List.getElem_cons_succ, List.getElem_cons_zero, List.setIfInBounds_toArray, List.set_cons_zero, List.set_cons_succ]
  refine' wpAnyH_take (i := 6) (oi := _) (v := ?v106) rfl (by as_aux_lemma => kernel_rfl) (by as_aux_lemma => kernel_rfl) (by as_aux_lemma => kernel_rfl) (fun _ _ _ h => h) (Or.inl ⟨by rfl, ?y106⟩) hH0 ?r106
  case y106 => (intro w hSw; (try dsimp only at hSw); go_simp; (try with_reducible rfl))
  try simp only [Act.put, List.getElem_toArray, List.getElem_cons_succ, List.getElem_cons_zero, List.setIfInBounds_toArray, List.set_cons_zero, List.set_cons_succ]
  refine' wpAnyH_take (i := 7) (oi := _) (v := (.func (.func 77) #[.pointer (some ⟨X, 35, none⟩)] #[])) rfl (by as_aux_lemma => kernel_rfl) (by as_aux_lemma => kernel_rfl) (by as_aux_lemma => kernel_rfl) (fun _ _ _ h => h) (Or.inl ⟨by rfl, ?y107⟩) hH0 ?r107
  case y107 => (intro w hSw; (try dsimp only at hSw); go_simp; skip)
  try simp only [Act.put, List.getElem_toArray, List.getElem_cons_succ, List.getElem_cons_zero, List.setIfInBounds_toArray, List.set_cons_zero, List.set_cons_succ]
  refine wpAnyH_ready (rs := [8]) (by as_aux_lemma => kernel_rfl) (by simp) ?_
  refine AllReadyH.cons (o := _) rfl (fun K hK => ?_) AllReadyH.nil
  go_simp
  refine (HC.out _ RD.out.rd).mono ?_
  rintro e w6 ⟨A, c, rfl, kc, f1, h1⟩
  have RA := hide (RD.out.fx f1 h1)
  have GA := hide (grown_on GD.out f1.g)
  have HK := hide (kc.low GD.out.size)
  have c16 := RA.out.cell 16 _ rfl
  have z16 := RA.out.fz 16
  clear f1 h1 kc
  refine hK.out _ _ (trivial) (fun hN => ?_)
  clear hK K hH0
  have hH1 := hN
  clear hN
  try simp only [Act.put, List.getElem_toArray, List.getElem_cons_succ, List.getElem_cons_zero, List.setIfInBounds_toArray, List.set_cons_zero, List.set_cons_succ]
  refine' wpAnyH_take (i := 9) (oi := _) (v := ?v108) rfl (by as_aux_lemma => kernel_rfl) (by as_aux_lemma => kernel_rfl) (by as_aux_lemma => kernel_rfl) (fun _ _ _ h => h) (Or.inl ⟨by rfl, ?y108⟩) hH1 ?r108
  case y108 => (intro w hSw; (try dsimp only at hSw); go_simp; (try with_reducible rfl))
  try simp only [Act.put, List.getElem_toArray, List.getElem_cons_succ, List.getElem_cons_zero, List.setIfInBounds_toArray, List.set_cons_zero, List.set_cons_succ]
  refine' wpAnyH_take (i := 10) (oi := _) (v := ?v109) rfl (by as_aux_lemma => kernel_rfl) (by as_aux_lemma => kernel_rfl) (by as_aux_lemma => kernel_rfl) (fun _ _ _ h => h) (Or.inl ⟨by rfl, ?y109⟩) hH1 ?r109
  case y109 => (intro w hSw; (try dsimp only at hSw); go_simp; (try with_reducible rfl))
  try simp only [Act.put, List.getElem_toArray, List.getElem_cons_succ, List.getElem_cons_zero, List.setIfInBounds_toArray, List.set_cons_zero, List.set_cons_succ]
  refine' wpAnyH_take (i := 11) (oi := _) (v := ?v110) rfl (by as_aux_lemma => kernel_rfl) (by as_aux_lemma => kernel_rfl) (by as_aux_lemma => kernel_rfl) (fun _ _ _ h => h) (Or.inl ⟨by rfl, ?y110⟩) hH1 ?r110
  case y110 => (intro w hSw; (try dsimp only at hSw); go_simp; (try with_reducible rfl))
  try simp only [Act.put, List.getElem_toArray, List.getElem_cons_succ, List.getElem_cons_zero, List.setIfInBounds_toArray, List.set_cons_zero, List.set_cons_succ]
  refine wpAnyH_ready (rs := [12]) (by as_aux_lemma => kernel_rfl) (by simp) ?_
  refine AllReadyH.cons (o := _) rfl (fun K hK => ?_) AllReadyH.nil
  go_simp
  have RB := hide (show RS B X (w6.setCell ⟨X, 16, none⟩ (.slice A cl.length c)) (dC ⟨6, (0, 0), e0, cl, pe, nn, b0⟩ ⟨mZ, A, c, mZ⟩) _ from RA.out.set 16 (.slice A cl.length c) (by decide))
  refine hK.out _ _ (trivial) (fun hN => ?_)
  clear hK K hH1
  have hH2 := hN
  clear hN
  try simp only [Act.put, List.getElem_toArray, List.getElem_cons_succ, List.getElem_cons_zero, List.setIfInBounds_toArray, List.set_cons_zero, List.set_cons_succ]
  refine wpAnyH_done (by as_aux_lemma => kernel_rfl) ?_ _
  have R7 := RB
  have G7 := hide (grown_on GA.out (grown_setX w6 X 16 (.slice A cl.length c)))
  replace HK := hide (HK.out.go (grown_setX w6 X 16 (.slice A cl.length c)) HX.out)
  clear c16 z16 RA RB RD GA GD hH2
  generalize hW : w6.setCell ⟨X, 16, none⟩ (.slice A cl.length c) = w7 at *
  clear hW
  go_wp2_with fail
  go_end0
  exact ⟨⟨mZ, A, c, mZ⟩, _, rfl, R7.out, ⟨EvF.nil _ _, HK.out, EvF.nil _ _⟩, G7.out⟩
set_option maxRecDepth 100000 in
set_option maxHeartbeats 6400000 in
set_option linter.unusedSimpArgs false in
theorem fields7 (B X : Nat) (t : Tx) (w : World) (h : RS B X w (dC d0 mD) t) (hk : (num t).1 = 7) (pe nn : Int) (t1 t2 t3 : Tx) (h1 : (num t).2 = t1) (h2 : num t1 = (pe, t2)) (h3 : num t2 = (nn, t3)) :
    Calls Tryz.prog 54 #[.pointer (some ⟨X, 0, none⟩)] w (RdF B X w (⟨7, (0, 0), e0, [], pe, nn, b0⟩)) := by
  have hmf : ∀ (fn : Fn) (first cap : Array Value) (w : World), (Instr.makeFunc fn first cap).run Tryz.prog w = .ok (.func fn first cap) w := fun _ _ _ _ => rfl
  have HX := hide h.rd.lt
  have N0 := hide (number_any B X 35 t w h.rd)
  have R0 := hide h
  rw [hk, h1] at N0
  have HP := hide (fun w h => number_any B X 35 t1 w h)
  rw [h2] at HP
  dsimp only at HP
  have HN := hide (fun w h => number_any B X 35 t2 w h)
  rw [h3] at HN
  dsimp only at HN
  clear hk h1 h2 h3
  clear h
  go_enter Tryz.func54, Tryz.ntmps54
  go_wp2_with fail
  refine N0.out.mono ?_
  rintro e w1 ⟨rfl, f1, h1⟩
  have R1 := hide (R0.out.fx f1 h1)
  have G1 := hide f1.g
  have c0 := R1.out.cell 0 _ rfl
  have z0 := R1.out.fz 0
  clear f1 h1
  go_wp2_with fail
  have R2 := hide (show RS B X (w1.setCell ⟨X, 0, none⟩ (.int .i64 7)) (dC ⟨7, (0, 0), e0, [], 0, 0, b0⟩ mD) _ from R1.out.set 0 (.int .i64 7) (by decide))
  have G2 := hide (grown_on G1.out (grown_setX w1 X 0 (.int .i64 7)))
  generalize hW : w1.setCell ⟨X, 0, none⟩ (.int .i64 7) = w2 at *
  clear hW
  clear c0 z0
  go_wp2_with fail
  have RD := hide (R2.out.drew)
  have GD := hide (grown_on G2.out (grown_drew w2))
  refine wp_region_held_drew (S := fun _ => True) (by kernel_rfl) ?_ (fun hH0 => ?_)
  · exact trivial
  refine' wpAnyH_take (i := 0) (oi := _) (v := ?v0) rfl (by as_aux_lemma => kernel_rfl) (by as_aux_lemma => kernel_rfl) (by as_aux_lemma => kernel_rfl) (fun _ _ _ h => h) (Or.inl ⟨by rfl, ?y0⟩) hH0 ?r0
  case y0 => (intro w hSw; (try dsimp only at hSw); go_simp; (try with_reducible rfl))
  try simp only [Act.put, List.getElem_toArray, List.getElem_cons_succ, List.getElem_cons_zero, List.setIfInBounds_toArray, List.set_cons_zero, List.set_cons_succ]
  refine' wpAnyH_take (i := 1) (oi := _) (v := ?v1) rfl (by as_aux_lemma => kernel_rfl) (by as_aux_lemma => kernel_rfl) (by as_aux_lemma => kernel_rfl) (fun _ _ _ h => h) (Or.inl ⟨by rfl, ?y1⟩) hH0 ?r1
  case y1 => (intro w hSw; (try dsimp only at hSw); go_simp; (try with_reducible rfl))
  try simp only [Act.put, List.getElem_toArray, List.getElem_cons_succ, List.getElem_cons_zero, List.setIfInBounds_toArray, List.set_cons_zero, List.set_cons_succ]
  refine' wpAnyH_take (i := 2) (oi := _) (v := ?v2) rfl (by as_aux_lemma => kernel_rfl) (by as_aux_lemma => kernel_rfl) (by as_aux_lemma => kernel_rfl) (fun _ _ _ h => h) (Or.inl ⟨by rfl, ?y2⟩) hH0 ?r2
  case y2 => (intro w hSw; (try dsimp only at hSw); go_simp; (try with_reducible rfl))
  try simp only [Act.put, List.getElem_toArray, List.getElem_cons_succ, List.getElem_cons_zero, List.setIfInBounds_toArray, List.set_cons_zero, List.set_cons_succ]
  refine' wpAnyH_take (i := 3) (oi := _) (v := ?v3) rfl (by as_aux_lemma => kernel_rfl) (by as_aux_lemma => kernel_rfl) (by as_aux_lemma => kernel_rfl) (fun _ _ _ h => h) (Or.inl ⟨by rfl, ?y3⟩) hH0 ?r3
  case y3 => (intro w hSw; (try dsimp only at hSw); go_simp; (try with_reducible rfl))
  try simp only [Act.put, List.getElem_toArray, List.getElem_cons_succ, List.getElem_cons_zero, List.setIfInBounds_toArray, List.set_cons_zero, List.set_cons_succ]
  refine' wpAnyH_take (i := 4) (oi := _) (v := ?v4) rfl (by as_aux_lemma => kernel_rfl) (by as_aux_lemma => kernel_rfl) (by as_aux_lemma => kernel_rfl) (fun _ _ _ h => h) (Or.inl ⟨by rfl, ?y4⟩) hH0 ?r4
  case y4 => (intro w hSw; (try dsimp only at hSw); go_simp; (try with_reducible rfl))
  try simp only [Act.put, List.getElem_toArray, List.getElem_cons_succ, List.getElem_cons_zero, List.setIfInBounds_toArray, List.set_cons_zero, List.set_cons_succ]
  refine' wpAnyH_take (i := 6) (oi := _) (v := ?v5) rfl (by as_aux_lemma => kernel_rfl) (by as_aux_lemma => kernel_rfl) (by as_aux_lemma => kernel_rfl) (fun _ _ _ h => h) (Or.inl ⟨by rfl, ?y5⟩) hH0 ?r5
  case y5 => (intro w hSw; (try dsimp only at hSw); go_simp; (try with_reducible rfl))
  try simp only [Act.put, List.getElem_toArray, List.getElem_cons_succ, List.getElem_cons_zero, List.setIfInBounds_toArray, List.set_cons_zero, List.set_cons_succ]
  refine' wpAnyH_take (i := 7) (oi := _) (v := ?v6) rfl (by as_aux_lemma => kernel_rfl) (by as_aux_lemma => kernel_rfl) (by as_aux_lemma => kernel_rfl) (fun _ _ _ h => h) (Or.inl ⟨by rfl, ?y6⟩) hH0 ?r6
  case y6 => (intro w hSw; (try dsimp only at hSw); go_simp; (try with_reducible rfl))
  try simp only [Act.put, List.getElem_toArray, List.getElem_cons_succ, List.getElem_cons_zero, List.setIfInBounds_toArray, List.set_cons_zero, List.set_cons_succ]
  refine' wpAnyH_take (i := 8) (oi := _) (v := ?v7) rfl (by as_aux_lemma => kernel_rfl) (by as_aux_lemma => kernel_rfl) (by as_aux_lemma => kernel_rfl) (fun _ _ _ h => h) (Or.inl ⟨by rfl, ?y7⟩) hH0 ?r7
  case y7 => (intro w hSw; (try dsimp only at hSw); go_simp; (try with_reducible rfl))
  try simp only [Act.put, List.getElem_toArray, List.getElem_cons_succ, List.getElem_cons_zero, List.setIfInBounds_toArray, List.set_cons_zero, List.set_cons_succ]
  refine wpAnyH_ready (rs := [5]) (by as_aux_lemma => kernel_rfl) (by simp) ?_
  refine AllReadyH.cons (o := _) rfl (fun K hK => ?_) AllReadyH.nil
  go_simp
  refine (HP.out _ RD.out.rd).mono ?_
  rintro e w3 ⟨rfl, f1, h1⟩
  have RA := hide (RD.out.fx f1 h1)
  have GA := hide (grown_on GD.out f1.g)
  clear f1 h1
  refine hK.out _ _ (trivial) (fun hN => ?_)
  clear hK K hH0
  have hH1 := hN
  clear hN
  try simp only [Act.put, List.getElem_toArray, List.getElem_cons_succ, List.getElem_cons_zero, List.setIfInBounds_toArray, List.set_cons_zero, List.set_cons_succ]
  refine wpAnyH_ready (rs := [9]) (by as_aux_lemma => kernel_rfl) (by simp) ?_
  refine AllReadyH.cons (o := _) rfl (fun K hK => ?_) AllReadyH.nil
  go_simp
  refine (HN.out _ RA.out.rd).mono ?_
  rintro e w4 ⟨rfl, f1, h1⟩
  have RB := hide (RA.out.fx f1 h1)
  have GB := hide (grown_on GA.out f1.g)
  have c17 := RB.out.cell 17 _ rfl
  have z17 := RB.out.fz 17
  clear f1 h1
  refine hK.out _ _ (trivial) (fun hN => ?_)
  clear hK K hH1
  have hH2 := hN
  clear hN
  try simp only [Act.put, List.getElem_toArray, List.getElem_cons_succ, List.getElem_cons_zero, List.setIfInBounds_toArray, List.set_cons_zero, List.set_cons_succ]
  refine' wpAnyH_take (i := 10) (oi := _) (v := ?v8) rfl (by as_aux_lemma => kernel_rfl) (by as_aux_lemma => kernel_rfl) (by as_aux_lemma => kernel_rfl) (fun _ _ _ h => h) (Or.inl ⟨by rfl, ?y8⟩) hH2 ?r8
  case y8 => (intro w hSw; (try dsimp only at hSw); go_simp; (try with_reducible rfl))
  try simp only [Act.put, List.getElem_toArray, List.getElem_cons_succ, List.getElem_cons_zero, List.setIfInBounds_toArray, List.set_cons_zero, List.set_cons_succ]
  refine' wpAnyH_take (i := 11) (oi := _) (v := ?v9) rfl (by as_aux_lemma => kernel_rfl) (by as_aux_lemma => kernel_rfl) (by as_aux_lemma => kernel_rfl) (fun _ _ _ h => h) (Or.inl ⟨by rfl, ?y9⟩) hH2 ?r9
  case y9 => (intro w hSw; (try dsimp only at hSw); go_simp; (try with_reducible rfl))
  try simp only [Act.put, List.getElem_toArray, List.getElem_cons_succ, List.getElem_cons_zero, List.setIfInBounds_toArray, List.set_cons_zero, List.set_cons_succ]
  refine' wpAnyH_take (i := 12) (oi := _) (v := ?v10) rfl (by as_aux_lemma => kernel_rfl) (by as_aux_lemma => kernel_rfl) (by as_aux_lemma => kernel_rfl) (fun _ _ _ h => h) (Or.inl ⟨by rfl, ?y10⟩) hH2 ?r10
  case y10 => (intro w hSw; (try dsimp only at hSw); go_simp; (try with_reducible rfl))
  try simp only [Act.put, List.getElem_toArray, List.getElem_cons_succ, List.getElem_cons_zero, List.setIfInBounds_toArray, List.set_cons_zero, List.set_cons_succ]
  refine wpAnyH_ready (rs := [13]) (by as_aux_lemma => kernel_rfl) (by simp) ?_
  refine AllReadyH.cons (o := _) rfl (fun K hK => ?_) AllReadyH.nil
  go_simp
  have RC := hide (show RS B X (w4.setCell ⟨X, 17, none⟩ (.int .i64 pe)) (dC ⟨7, (0, 0), e0, [], pe, 0, b0⟩ mD) _ from RB.out.set 17 (.int .i64 pe) (by decide))
  have c18 := RC.out.cell 18 _ rfl
  have z18 := RC.out.fz 18
  refine hK.out _ _ (trivial) (fun hN => ?_)
  clear hK K hH2
  have hH3 := hN
  clear hN
  try simp only [Act.put, List.getElem_toArray, List.getElem_cons_succ, List.getElem_cons_zero, List.setIfInBounds_toArray, List.set_cons_zero, List.set_cons_succ]
  refine' wpAnyH_take (i := 14) (oi := _) (v := ?v11) rfl (by as_aux_lemma => kernel_rfl) (by as_aux_lemma => kernel_rfl) (by as_aux_lemma => kernel_rfl) (fun _ _ _ h => h) (Or.inl ⟨by rfl, ?y11⟩) hH3 ?r11
  case y11 => (intro w hSw; (try dsimp only at hSw); go_simp; (try with_reducible rfl))
  try simp only [Act.put, List.getElem_toArray, List.getElem_cons_succ, List.getElem_cons_zero, List.setIfInBounds_toArray, List.set_cons_zero, List.set_cons_succ]
  refine' wpAnyH_take (i := 15) (oi := _) (v := ?v12) rfl (by as_aux_lemma => kernel_rfl) (by as_aux_lemma => kernel_rfl) (by as_aux_lemma => kernel_rfl) (fun _ _ _ h => h) (Or.inl ⟨by rfl, ?y12⟩) hH3 ?r12
  case y12 => (intro w hSw; (try dsimp only at hSw); go_simp; (try with_reducible rfl))
  try simp only [Act.put, List.getElem_toArray, List.getElem_cons_succ, List.getElem_cons_zero, List.setIfInBounds_toArray, List.set_cons_zero, List.set_cons_succ]
  refine' wpAnyH_take (i := 16) (oi := _) (v := ?v13) rfl (by as_aux_lemma => kernel_rfl) (by as_aux_lemma => kernel_rfl) (by as_aux_lemma => kernel_rfl) (fun _ _ _ h => h) (Or.inl ⟨by rfl, ?y13⟩) hH3 ?r13
  case y13 => (intro w hSw; (try dsimp only at hSw); go_simp; (try with_reducible rfl))
  try simp only [Act.put, List.getElem_toArray, List.getElem_cons_succ, List.getElem_cons_zero, List.setIfInBounds_toArray, List.set_cons_zero, List.set_cons_succ]
  refine wpAnyH_ready (rs := [17]) (by as_aux_lemma => kernel_rfl) (by simp) ?_
  refine AllReadyH.cons (o := _) rfl (fun K hK => ?_) AllReadyH.nil
  go_simp
  have RE := hide (show RS B X ((w4.setCell ⟨X, 17, none⟩ (.int .i64 pe)).setCell ⟨X, 18, none⟩ (.int .i64 nn)) (dC ⟨7, (0, 0), e0, [], pe, nn, b0⟩ mD) _ from RC.out.set 18 (.int .i64 nn) (by decide))
  refine hK.out _ _ (trivial) (fun hN => ?_)
  clear hK K hH3
  have hH4 := hN
  clear hN
  try simp only [Act.put, List.getElem_toArray, List.getElem_cons_succ, List.getElem_cons_zero, List.setIfInBounds_toArray, List.set_cons_zero, List.set_cons_succ]
  refine wpAnyH_done (by as_aux_lemma => kernel_rfl) ?_ _
  have R5 := RE
  have G5 := hide (grown_on (grown_on GB.out (grown_setX w4 X 17 (.int .i64 pe))) (grown_setX _ X 18 (.int .i64 nn)))
  clear c17 z17 c18 z18 RA RB RC RD RE GA GB GD hH4
  generalize hW : (w4.setCell ⟨X, 17, none⟩ (.int .i64 pe)).setCell ⟨X, 18, none⟩ (.int .i64 nn) = w5 at *
  clear hW
  go_wp2_with fail
  go_end0
  exact ⟨mD, _, rfl, R5.out, ⟨EvF.nil _ _, KC.nil _ _, EvF.nil _ _⟩, G5.out⟩
set_option maxRecDepth 100000 in
set_option maxHeartbeats 6400000 in
set_option linter.unusedSimpArgs false in
theorem fields8 (B X : Nat) (t : Tx) (w : World) (h : RS B X w (dC d0 mD) t) (hk : (num t).1 = 8) (pe nn : Int) (t1 t2 t3 : Tx) (h1 : (num t).2 = t1) (h2 : num t1 = (pe, t2)) (h3 : num t2 = (nn, t3)) (b : De.B) (t4 : Tx) (h4 : bkgE t3 = (b, t4)) :
    Calls Tryz.prog 54 #[.pointer (some ⟨X, 0, none⟩)] w (RdF B X w (⟨8, (0, 0), e0, [], pe, nn, b⟩)) := by
  have hmf : ∀ (fn : Fn) (first cap : Array Value) (w : World), (Instr.makeFunc fn first cap).run Tryz.prog w = .ok (.func fn first cap) w := fun _ _ _ _ => rfl
  have HX := hide h.rd.lt
  have N0 := hide (number_any B X 35 t w h.rd)
  have R0 := hide h
  rw [hk, h1] at N0
  have HP := hide (fun w h => number_any B X 35 t1 w h)
  rw [h2] at HP
  dsimp only at HP
  have HN := hide (fun w h => number_any B X 35 t2 w h)
  rw [h3] at HN
  dsimp only at HN
  have HB := hide (fun w h => rbook_any B X 35 t3 w h)
  rw [h4] at HB
  dsimp only at HB
  clear hk h1 h2 h3 h4
  clear h
  go_enter Tryz.func54, Tryz.ntmps54
  go_wp2_with fail
  refine N0.out.mono ?_
  rintro e w1 ⟨rfl, f1, h1⟩
  have R1 := hide (R0.out.fx f1 h1)
  have G1 := hide f1.g
  have c0 := R1.out.cell 0 _ rfl
  have z0 := R1.out.fz 0
  clear f1 h1
  go_wp2_with fail
  have R2 := hide (show RS B X (w1.setCell ⟨X, 0, none⟩ (.int .i64 8)) (dC ⟨8, (0, 0), e0, [], 0, 0, b0⟩ mD) _ from R1.out.set 0 (.int .i64 8) (by decide))
  have G2 := hide (grown_on G1.out (grown_setX w1 X 0 (.int .i64 8)))
  generalize hW : w1.setCell ⟨X, 0, none⟩ (.int .i64 8) = w2 at *
  clear hW
  clear c0 z0
  go_wp2_with fail
  have RD := hide (R2.out.drew)
  have GD := hide (grown_on G2.out (grown_drew w2))
  refine wp_region_held_drew (S := fun _ => True) (by kernel_rfl) ?_ (fun hH0 => ?_)
  · exact trivial
  refine' wpAnyH_take (i := 0) (oi := _) (v := ?v0) rfl (by as_aux_lemma => kernel_rfl) (by as_aux_lemma => kernel_rfl) (by as_aux_lemma => kernel_rfl) (fun _ _ _ h => h) (Or.inl ⟨by rfl, ?y0⟩) hH0 ?r0
  case y0 => (intro w hSw; (try dsimp only at hSw); go_simp; (try with_reducible rfl))
  try simp only [Act.put, List.getElem_toArray, List.getElem_cons_succ, List.getElem_cons_zero, List.setIfInBounds_toArray, List.set_cons_zero, List.set_cons_succ]
  refine' wpAnyH_take (i := 1) (oi := _) (v := ?v1) rfl (by as_aux_lemma => kernel_rfl) (by as_aux_lemma => kernel_rfl) (by as_aux_lemma => kernel_rfl) (fun _ _ _ h => h) (Or.inl ⟨by rfl, ?y1⟩) hH0 ?r1
  case y1 => (intro w hSw; (try dsimp only at hSw); go_simp; (try with_reducible rfl))
  try simp only [Act.put, List.getElem_toArray, List.getElem_cons_succ, List.getElem_cons_zero, List.setIfInBounds_toArray, List.set_cons_zero, List.set_cons_succ]
  refine' wpAnyH_take (i := 2) (oi := _) (v := ?v2) rfl (by as_aux_lemma => kernel_rfl) (by as_aux_lemma => kernel_rfl) (by as_aux_lemma => kernel_rfl) (fun _ _ _ h => h) (Or.inl ⟨by rfl, ?y2⟩) hH0 ?r2
  case y2 => (intro w hSw; (try dsimp only at hSw); go_simp; (try with_reducible rfl))
  try simp only [Act.put, List.getElem_toArray, List.getElem_cons_succ, List.getElem_cons_zero, List.setIfInBounds_toArray, List.set_cons_zero, List.set_cons_succ]
  refine' wpAnyH_take (i := 3) (oi := _) (v := ?v3) rfl (by as_aux_lemma => kernel_rfl) (by as_aux_lemma => kernel_rfl) (by as_aux_lemma => kernel_rfl) (fun _ _ _ h => h) (Or.inl ⟨by rfl, ?y3⟩) hH0 ?r3
  case y3 => (intro w hSw; (try dsimp only at hSw); go_simp; (try with_reducible rfl))
  try simp only [Act.put, List.getElem_toArray, List.getElem_cons_succ, List.getElem_cons_zero, List.setIfInBounds_toArray, List.set_cons_zero, List.set_cons_succ]
  refine' wpAnyH_take (i := 4) (oi := _) (v := ?v4) rfl (by as_aux_lemma => kernel_rfl) (by as_aux_lemma => kernel_rfl) (by as_aux_lemma => kernel_rfl) (fun _ _ _ h => h) (Or.inl ⟨by rfl, ?y4⟩) hH0 ?r4
  case y4 => (intro w hSw; (try dsimp only at hSw); go_simp; (try with_reducible rfl))
  try simp only [Act.put, List.getElem_toArray, List.getElem_cons_succ, List.getElem_cons_zero, List.setIfInBounds_toArray, List.set_cons_zero, List.set_cons_succ]
  refine' wpAnyH_take (i := 6) (oi := _) (v := ?v5) rfl (by as_aux_lemma => kernel_rfl) (by as_aux_lemma => kernel_rfl) (by as_aux_lemma => kernel_rfl) (fun _ _ _ h => h) (Or.inl ⟨by rfl, ?y5⟩) hH0 ?r5
  case y5 => (intro w hSw; (try dsimp only at hSw); go_simp; (try with_reducible rfl))
  try simp only [Act.put, List.getElem_toArray, List.getElem_cons_succ, List.getElem_cons_zero, List.setIfInBounds_toArray, List.set_cons_zero, List.set_cons_succ]
  refine' wpAnyH_take (i := 7) (oi := _) (v := ?v6) rfl (by as_aux_lemma => kernel_rfl) (by as_aux_lemma => kernel_rfl) (by as_aux_lemma => kernel_rfl) (fun _ _ _ h => h) (Or.inl ⟨by rfl, ?y6⟩) hH0 ?r6
  case y6 => (intro w hSw; (try dsimp only at hSw); go_simp; (try with_reducible rfl))
  try simp only [Act.put, List.getElem_toArray, List.getElem_cons_succ, List.getElem_cons_zero, List.setIfInBounds_toArray, List.set_cons_zero, List.set_cons_succ]
  refine' wpAnyH_take (i := 8) (oi := _) (v := ?v7) rfl (by as_aux_lemma => kernel_rfl) (by as_aux_lemma => kernel_rfl) (by as_aux_lemma => kernel_rfl) (fun _ _ _ h => h) (Or.inl ⟨by rfl, ?y7⟩) hH0 ?r7
  case y7 => (intro w hSw; (try dsimp only at hSw); go_simp; (try with_reducible rfl))
  try simp only [Act.put, List.getElem_toArray, List.getElem_cons_succ, List.getElem_cons_zero, List.setIfInBounds_toArray, List.set_cons_zero, List.set_cons_succ]
  refine wpAnyH_ready (rs := [5]) (by as_aux_lemma => kernel_rfl) (by simp) ?_
  refine AllReadyH.cons (o := _) rfl (fun K hK => ?_) AllReadyH.nil
  go_simp
  refine (HP.out _ RD.out.rd).mono ?_
  rintro e w3 ⟨rfl, f1, h1⟩
  have RA := hide (RD.out.fx f1 h1)
  have GA := hide (grown_on GD.out f1.g)
  clear f1 h1
  refine hK.out _ _ (trivial) (fun hN => ?_)
  clear hK K hH0
  have hH1 := hN
  clear hN
  try simp only [Act.put, List.getElem_toArray, List.getElem_cons_succ, List.getElem_cons_zero, List.setIfInBounds_toArray, List.set_cons_zero, List.set_cons_succ]
  refine wpAnyH_ready (rs := [9]) (by as_aux_lemma => kernel_rfl) (by simp) ?_
  refine AllReadyH.cons (o := _) rfl (fun K hK => ?_) AllReadyH.nil
  go_simp
  refine (HN.out _ RA.out.rd).mono ?_
  rintro e w4 ⟨rfl, f1, h1⟩
  have RB := hide (RA.out.fx f1 h1)
  have GB := hide (grown_on GA.out f1.g)
  have c17 := RB.out.cell 17 _ rfl
  have z17 := RB.out.fz 17
  clear f1 h1
  refine hK.out _ _ (trivial) (fun hN => ?_)
  clear hK K hH1
  have hH2 := hN
  clear hN
  try simp only [Act.put, List.getElem_toArray, List.getElem_cons_succ, List.getElem_cons_zero, List.setIfInBounds_toArray, List.set_cons_zero, List.set_cons_succ]
  refine' wpAnyH_take (i := 10) (oi := _) (v := ?v8) rfl (by as_aux_lemma => kernel_rfl) (by as_aux_lemma => kernel_rfl) (by as_aux_lemma => kernel_rfl) (fun _ _ _ h => h) (Or.inl ⟨by rfl, ?y8⟩) hH2 ?r8
  case y8 => (intro w hSw; (try dsimp only at hSw); go_simp; (try with_reducible rfl))
  try simp only [Act.put, List.getElem_toArray, List.getElem_cons_succ, List.getElem_cons_zero, List.setIfInBounds_toArray, List.set_cons_zero, List.set_cons_succ]
  refine' wpAnyH_take (i := 11) (oi := _) (v := ?v9) rfl (by as_aux_lemma => kernel_rfl) (by as_aux_lemma => kernel_rfl) (by as_aux_lemma => kernel_rfl) (fun _ _ _ h => h) (Or.inl ⟨by rfl, ?y9⟩) hH2 ?r9
  case y9 => (intro w hSw; (try dsimp only at hSw); go_simp; (try with_reducible rfl))
  try simp only [Act.put, List.getElem_toArray, List.getElem_cons_succ, List.getElem_cons_zero, List.setIfInBounds_toArray, List.set_cons_zero, List.set_cons_succ]
  refine' wpAnyH_take (i := 12) (oi := _) (v := ?v10) rfl (by as_aux_lemma => kernel_rfl) (by as_aux_lemma => kernel_rfl) (by as_aux_lemma => kernel_rfl) (fun _ _ _ h => h) (Or.inl ⟨by rfl, ?y10⟩) hH2 ?r10
  case y10 => (intro w hSw; (try dsimp only at hSw); go_simp; (try with_reducible rfl))
  try simp only [Act.put, List.getElem_toArray, List.getElem_cons_succ, List.getElem_cons_zero, List.setIfInBounds_toArray, List.set_cons_zero, List.set_cons_succ]
  refine wpAnyH_ready (rs := [13]) (by as_aux_lemma => kernel_rfl) (by simp) ?_
  refine AllReadyH.cons (o := _) rfl (fun K hK => ?_) AllReadyH.nil
  go_simp
  have RC := hide (show RS B X (w4.setCell ⟨X, 17, none⟩ (.int .i64 pe)) (dC ⟨8, (0, 0), e0, [], pe, 0, b0⟩ mD) _ from RB.out.set 17 (.int .i64 pe) (by decide))
  have c18 := RC.out.cell 18 _ rfl
  have z18 := RC.out.fz 18
  refine hK.out _ _ (trivial) (fun hN => ?_)
  clear hK K hH2
  have hH3 := hN
  clear hN
  try simp only [Act.put, List.getElem_toArray, List.getElem_cons_succ, List.getElem_cons_zero, List.setIfInBounds_toArray, List.set_cons_zero, List.set_cons_succ]
  refine' wpAnyH_take (i := 14) (oi := _) (v := ?v11) rfl (by as_aux_lemma => kernel_rfl) (by as_aux_lemma => kernel_rfl) (by as_aux_lemma => kernel_rfl) (fun _ _ _ h => h) (Or.inl ⟨by rfl, ?y11⟩) hH3 ?r11
  case y11 => (intro w hSw; (try dsimp only at hSw); go_simp; (try with_reducible rfl))
  try simp only [Act.put, List.getElem_toArray, List.getElem_cons_succ, List.getElem_cons_zero, List.setIfInBounds_toArray, List.set_cons_zero, List.set_cons_succ]
  refine' wpAnyH_take (i := 15) (oi := _) (v := ?v12) rfl (by as_aux_lemma => kernel_rfl) (by as_aux_lemma => kernel_rfl) (by as_aux_lemma => kernel_rfl) (fun _ _ _ h => h) (Or.inl ⟨by rfl, ?y12⟩) hH3 ?r12
  case y12 => (intro w hSw; (try dsimp only at hSw); go_simp; (try with_reducible rfl))
  try simp only [Act.put, List.getElem_toArray, List.getElem_cons_succ, List.getElem_cons_zero, List.setIfInBounds_toArray, List.set_cons_zero, List.set_cons_succ]
  refine' wpAnyH_take (i := 16) (oi := _) (v := ?v13) rfl (by as_aux_lemma => kernel_rfl) (by as_aux_lemma => kernel_rfl) (by as_aux_lemma => kernel_rfl) (fun _ _ _ h => h) (Or.inl ⟨by rfl, ?y13⟩) hH3 ?r13
  case y13 => (intro w hSw; (try dsimp only at hSw); go_simp; (try with_reducible rfl))
  try simp only [Act.put, List.getElem_toArray, List.getElem_cons_succ, List.getElem_cons_zero, List.setIfInBounds_toArray, List.set_cons_zero, List.set_cons_succ]
  refine wpAnyH_ready (rs := [17]) (by as_aux_lemma => kernel_rfl) (by simp) ?_
  refine AllReadyH.cons (o := _) rfl (fun K hK => ?_) AllReadyH.nil
  go_simp
  have RE := hide (show RS B X ((w4.setCell ⟨X, 17, none⟩ (.int .i64 pe)).setCell ⟨X, 18, none⟩ (.int .i64 nn)) (dC ⟨8, (0, 0), e0, [], pe, nn, b0⟩ mD) _ from RC.out.set 18 (.int .i64 nn) (by decide))
  refine hK.out _ _ (trivial) (fun hN => ?_)
  clear hK K hH3
  have hH4 := hN
  clear hN
  try simp only [Act.put, List.getElem_toArray, List.getElem_cons_succ, List.getElem_cons_zero, List.setIfInBounds_toArray, List.set_cons_zero, List.set_cons_succ]
  refine wpAnyH_done (by as_aux_lemma => kernel_rfl) ?_ _
  have R5 := RE
  have G5 := hide (grown_on (grown_on GB.out (grown_setX w4 X 17 (.int .i64 pe))) (grown_setX _ X 18 (.int .i64 nn)))
  clear c17 z17 c18 z18 RA RB RC RD RE GA GB GD hH4
  generalize hW : (w4.setCell ⟨X, 17, none⟩ (.int .i64 pe)).setCell ⟨X, 18, none⟩ (.int .i64 nn) = w5 at *
  clear hW
  go_wp2_with fail
  refine (HB.out w5 R5.out.rd).mono ?_
  rintro e w6 ⟨m, rfl, kb, f1, h1⟩
  have R6 := hide (R5.out.fx f1 h1)
  have G6 := hide (grown_on G5.out f1.g)
  have Hkb := hide (kb.low G5.out.size)
  clear f1 h1 kb
  go_wp2_with (refine store_mid rfl _ _ _ rfl X 19 (bkC b m).toArray rfl rfl (R6.out.there 19 16 (by decide)) (by kernel_rfl) (by kernel_rfl) ?_)
  have R7 := hide (show RS B X (w6.setCells X 19 (bkC b m)) (dC ⟨8, (0, 0), e0, [], pe, nn, b⟩ ⟨mZ, none, 0, m⟩) _ from rs_end R6.out)
  have G7 := hide (grown_on G6.out (grown_setCells (bkC b m) w6 X 19))
  replace Hkb := hide (Hkb.out.go (grown_setCells (bkC b m) w6 X 19) HX.out)
  generalize hW : w6.setCells X 19 (bkC b m) = w7 at *
  clear hW
  go_wp2_with fail
  go_end0
  exact ⟨⟨mZ, none, 0, m⟩, _, rfl, R7.out, ⟨EvF.nil _ _, KC.nil _ _, Hkb.out⟩, G7.out⟩
set_option maxRecDepth 100000 in
set_option maxHeartbeats 6400000 in
set_option linter.unusedSimpArgs false in
theorem fieldsO (B X : Nat) (t : Tx) (w : World) (h : RS B X w (dC d0 mD) t) (k : Int) (hk : (num t).1 = k) (n1 : ¬ (k = 1 ∨ k = 2)) (n3 : ¬ (k = 3 ∨ k = 4)) (n5 : ¬ (k = 5 ∨ k = 6)) (n7 : ¬ k = 7) (n8 : ¬ k = 8) :
    Calls Tryz.prog 54 #[.pointer (some ⟨X, 0, none⟩)] w (RdF B X w (⟨k, (0, 0), e0, [], 0, 0, b0⟩)) := by
  have hmf : ∀ (fn : Fn) (first cap : Array Value) (w : World), (Instr.makeFunc fn first cap).run Tryz.prog w = .ok (.func fn first cap) w := fun _ _ _ _ => rfl
  have HX := hide h.rd.lt
  have N0 := hide (number_any B X 35 t w h.rd)
  have R0 := hide h
  rw [hk] at N0
  have e1 : (k == 1) = false := by rw [beq_eq_false_iff_ne]; omega
  have e2 : (k == 2) = false := by rw [beq_eq_false_iff_ne]; omega
  have e3 : (k == 3) = false := by rw [beq_eq_false_iff_ne]; omega
  have e4 : (k == 4) = false := by rw [beq_eq_false_iff_ne]; omega
  have e5 : (k == 5) = false := by rw [beq_eq_false_iff_ne]; omega
  have e6 : (k == 6) = false := by rw [beq_eq_false_iff_ne]; omega
  have e7 : (k == 7) = false := by rw [beq_eq_false_iff_ne]; omega
  have e8 : (k == 8) = false := by rw [beq_eq_false_iff_ne]; omega
  clear hk n1 n3 n5 n7 n8
  clear h
  go_enter Tryz.func54, Tryz.ntmps54
  go_wp2_with fail
  refine N0.out.mono ?_
  rintro e w1 ⟨rfl, f1, h1⟩
  have R1 := hide (R0.out.fx f1 h1)
  have G1 := hide f1.g
  have c0 := R1.out.cell 0 _ rfl
  have z0 := R1.out.fz 0
  clear f1 h1
  have R2 := hide (show RS B X (w1.setCell ⟨X, 0, none⟩ (.int .i64 k)) (dC ⟨k, (0, 0), e0, [], 0, 0, b0⟩ mD) _ from R1.out.set 0 (.int .i64 k) (by decide))
  have G2 := hide (grown_on G1.out (grown_setX w1 X 0 (.int .i64 k)))
  go_wp2_with fail
  go_end0
  exact ⟨mD, _, rfl, R2.out, ⟨EvF.nil _ _, KC.nil _ _, EvF.nil _ _⟩, G2.out⟩
end Go.Proofs.YtlmdceeeahnkcaaGreatDoor

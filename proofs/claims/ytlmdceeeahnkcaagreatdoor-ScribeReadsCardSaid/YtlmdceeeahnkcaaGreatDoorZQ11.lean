/- ScRead; ScLi of the recipes, what is needed of them. -/
import Derived.Laws.ResultCell
import Derived.Test.YtlmdceeeahnkcaaGreatDoorZScRF
import Derived.Test.YtlmdceeeahnkcaaGreatDoorZQ1
import Derived.Test.YtlmdceeeahnkcaaGreatDoorZQ7
namespace Go.Proofs.YtlmdceeeahnkcaaGreatDoor
open Go.RowKit Rul Rt Go.Sort Sc De Cl

theorem fields_any (B X : Nat) (t : Tx) (w : World) (h : RS B X w (dC d0 mD) t) :
    Calls Tryz.prog 54 #[.pointer (some ⟨X, 0, none⟩)] w (RdF B X w (rdD t)) := by
  have hid : ∀ s, idnE s = (((idnE s).1.1, (idnE s).1.2), (idnE s).2) := fun _ => rfl
  unfold rdD
  simp only
  by_cases n1 : (num t).1 = 1 ∨ (num t).1 = 2
  · rw [if_pos n1]
    rcases n1 with q | q
    · rw [q]; exact fields1 B X t w h q _ _ _ _ _ _ rfl (hid _) rfl
    · rw [q]; exact fields2 B X t w h q _ _ _ _ _ _ rfl (hid _) rfl
  rw [if_neg n1]
  by_cases n3 : (num t).1 = 3 ∨ (num t).1 = 4
  · rw [if_pos n3]
    rcases n3 with q | q
    · rw [q]; exact fields3 B X t w h q _ _ _ _ rfl (hid _)
    · rw [q]; exact fields4 B X t w h q _ _ _ _ rfl (hid _)
  rw [if_neg n3]
  by_cases n5 : (num t).1 = 5 ∨ (num t).1 = 6
  · rw [if_pos n5]
    rcases n5 with q | q
    · rw [q]; exact fields5 B X t w h q _ _ _ _ _ rfl rfl rfl _ _ rfl
    · rw [q]; exact fields6 B X t w h q _ _ _ _ _ rfl rfl rfl _ _ rfl
  rw [if_neg n5]
  by_cases n7 : (num t).1 = 7
  · rw [if_pos n7, n7]; exact fields7 B X t w h n7 _ _ _ _ _ rfl rfl rfl
  rw [if_neg n7]
  by_cases n8 : (num t).1 = 8
  · rw [if_pos n8, n8]; exact fields8 B X t w h n8 _ _ _ _ _ rfl rfl rfl _ _ rfl
  rw [if_neg n8]
  exact fieldsO B X t w h _ rfl n1 n3 n5 n7 n8
theorem DF.low {S T : Nat} {w : World} {d : D} {m : DM} (h : DF S w d m) (hs : T ≤ S) : DF T w d m := ⟨h.e.low hs, h.c.low hs, h.b.low hs⟩
theorem DF.go {S k : Nat} {w w1 : World} {d : D} {m : DM} (h : DF S w d m) (g : w.grownBy w1 (some k)) (hk : k < S) : DF S w1 d m := ⟨h.e.go g hk, h.c.go g hk, h.b.go g hk⟩
theorem DF.dl {S : Nat} {w : World} {d : D} {m : DM} (h : DF S w d m) (hs : DS 10000 d) : DL w d m :=
  ⟨⟨h.e.ro.r, hs.e.o, ⟨h.e.rd.r, rfl, hs.e.d, h.e.rm.r, rfl, hs.e.m, h.e.ry.r, rfl, hs.e.y⟩, h.e.rx.r, hs.e.x, by have := hs.e.u; omega, by have := hs.e.t; omega⟩, h.c.r, hs.c,
    ⟨h.b.ro.r, hs.b.o, ⟨h.b.rd.r, rfl, hs.b.d, h.b.rm.r, rfl, hs.b.m, h.b.ry.r, rfl, hs.b.y⟩, h.b.rx.r, hs.b.x, by have := hs.b.u; omega, by have := hs.b.t; omega⟩⟩
theorem below_grown {B X : Nat} {a b c : World} (h : Go.RowKit.Below B a b) (g : b.grownBy c (some X)) (hX : B ≤ X) (hs : B ≤ b.heap.size) : Go.RowKit.Below B a c :=
  h.trans ⟨g.os, g.tape, g.output, g.size, fun k hk => g.block k (by omega) (by intro e; injection e with e; omega)⟩
theorem there_grown {X : Nat} {w w1 : World} {b o n : Nat} (h : w.there b o n) (g : w.grownBy w1 (some X)) (hb : b < w.heap.size) (hne : b ≠ X) : w1.there b o n := fun j hj => by
  have e := g.block b hb (fun e => hne (Option.some.inj e))
  have h1 := h j hj
  rw [World.cell?_of_block (a := ⟨b, o + j, none⟩) e, World.frozen?_of_block (a := ⟨b, o + j, none⟩) e]
  exact h1
/-- a deed is read. -/
def RdX (w : World) (d : D) (e : Ending) (w' : World) : Prop := ∃ m, e = .returned (.agg (dC d m).toArray) ∧ DF w.heap.size w' d m ∧ Go.RowKit.Below w.heap.size w w'
/-- the reader's cells at the beginning. -/
abbrev rdcs (t : Tx) : List Value := dC d0 mD ++ [Value.string (str t)]
theorem there_below {w w1 : World} {b o n : Nat} (h : w.there b o n) (hb : Go.RowKit.Below w.heap.size w w1) (hl : b < w.heap.size) : w1.there b o n := fun j hj => by
  have h1 := h j hj
  rw [hb.cell (p := ⟨b, o + j, none⟩) hl, hb.frozen (p := ⟨b, o + j, none⟩) hl]; exact h1
abbrev rd0 (w : World) : World := w.alloc (.cells (dC d0 mD).toArray 34)
abbrev rd1 (w : World) (t : Tx) : World := (rd0 w).alloc (.cells (rdcs t).toArray 93)
theorem rd1_is (w : World) (t : Tx) (he : Env w) (ht : t.length ≤ 20000) : RS w.heap.size (w.heap.size + 1) (rd1 w t) (dC d0 mD) t := by
  have hs : (rd0 w).heap.size = w.heap.size + 1 := by simp
  have hr := range_new (rd0 w) (rdcs t) 93
  rw [hs] at hr
  have hz : ∀ j, (rd1 w t).frozen? ⟨w.heap.size + 1, j, none⟩ = false := fun j => by rw [← hs]; exact World.frozen?_alloc_at _ _ _ _ rfl
  exact ⟨⟨⟨w, he, Nat.le_refl _, more (more (start w) _) _⟩, Nat.le_succ _, by simp, range_cell hr 35 35 _ rfl rfl, hz 35, ht⟩, range_mid (pre := []) (part := dC d0 mD) (post := [Value.string (str t)]) (show _ from hr) 0 rfl, rfl, hz⟩
set_option maxRecDepth 100000 in
set_option maxHeartbeats 3200000 in
theorem read_any (t : Tx) (w : World) (he : Env w) (ht : t.length ≤ 20000) :
    Calls Tryz.prog 27 #[.string (str t)] w (RdX w (rdD t)) := by
  have HF := hide (fields_any _ _ t (rd1 w t) (rd1_is w t he ht))
  have HT := hide (there_below (there_new w (dC d0 mD).toArray 34 35 (by decide)) (more (start (rd0 w)) (.cells (rdcs t).toArray 93)) (by simp))
  have HB : Hid (Go.RowKit.Below w.heap.size w (rd1 w t)) := hide (more (more (start w) _) _)
  have HS : Hid ((rd1 w t).heap.size = w.heap.size + 2) := hide (by simp)
  generalize rdD t = d at *
  clear he ht
  go_enter Tryz.func27, Tryz.ntmps27
  go_wp2_with (first | refine store_new rfl _ _ _ rfl _ _ (rdcs t).toArray rfl (by simp; rfl) rfl (by kernel_rfl) (by kernel_rfl) (by kernel_rfl) ?_ | refine build_at rfl 93 _ rfl (rdcs t).toArray (by kernel_rfl) ?_)
  refine HF.out.mono ?_
  rintro e w2 ⟨m, t', rfl, hr, hd, hg⟩
  have RG := hide hr.at_
  have HT2 := hide (there_grown HT.out hg (by simp; omega) (by omega))
  have HB2 := hide (below_grown HB.out hg (Nat.le_succ _) HB.out.size)
  have HD := hide (hd.low (T := w.heap.size + 1) (by have := HS.out; omega))
  clear hr hd hg
  go_wp2_with (first | refine load_deed rfl _ rfl _ _ rfl _ RG.out rfl ?_ | refine store_mid rfl _ _ _ rfl w.heap.size 0 (dC d m).toArray rfl rfl HT2.out (by kernel_rfl) (by kernel_rfl) ?_)
  have hc := World.rangeAt_setCells_same w2 w.heap.size 0 (dC d m) HT2.out
  have HB3 := hide (below_setCells (dC d m) w.heap.size 0 HB2.out (Nat.le_refl _))
  have HD3 := hide ((HD.out.go (grown_setCells (dC d m) w2 w.heap.size 0) (Nat.lt_succ_self _)).low (Nat.le_succ _))
  go_wp2_with fail
  refine bodyPost_ret (v := .agg (dC d m).toArray) ?_ ?_ ?_
  · exact results_mid rfl _ _ w.heap.size (dC d m) _ rfl hc Tryz.underlying34 rfl (by kernel_rfl)
  · rfl
  · exact ⟨m, rfl, HD3.out, HB3.out⟩
end Go.Proofs.YtlmdceeeahnkcaaGreatDoor
namespace Go.Proofs.YtlmdceeeahnkcaaGreatDoor
open Go.RowKit Rul Rt Go.Sort Sc De Cl

theorem written_any (d : D) (m : DM) (w : World) (he : Env w) (h : DL w d m) (hd : isD d = true) : Calls Tryz.prog 17 #[.agg (dC d m).toArray] w (Ans w (.string (str (jn (dN d))))) := by
  obtain ⟨hs, hn, _⟩ := dN_small hd
  have hf := few_fit hs
  have hn : (dN d).length ≤ 1000 := by omega
  have a := isD_ask hd
  have a0 := a
  unfold De.ask at a
  obtain ⟨kd, ⟨i, j⟩, e, cl, pe, nn, ⟨⟨i2, j2⟩, st, e2⟩⟩ := d
  refine five (k := kd) (fun q => ?_) (fun n1 q => ?_) (fun n1 n3 q => ?_) (fun n1 n3 n5 q => ?_) (fun n1 n3 n5 n7 => ?_)
  · rw [if_pos q, Bool.and_eq_true] at a
    rcases q with q | q
    · cases q; exact written1 i j e cl pe nn i2 j2 st e2 m w he h (few_fit (id_few a.1)) (few_fit (ev_small a.2).1) (slim_of a.2) hf hn
    · cases q; exact written2 i j e cl pe nn i2 j2 st e2 m w he h (few_fit (id_few a.1)) (few_fit (ev_small a.2).1) (slim_of a.2) hf hn
  · rw [if_neg n1, if_pos q] at a
    rcases q with q | q
    · cases q; exact written3 i j e cl pe nn i2 j2 st e2 m w he h (few_fit (id_few a)) hf hn
    · cases q; exact written4 i j e cl pe nn i2 j2 st e2 m w he h (few_fit (id_few a)) hf hn
  · rw [if_neg n1, if_neg n3, if_pos q, Bool.and_eq_true] at a
    have hf2 := hf
    unfold dN at hf2
    rw [if_neg n1, if_neg n3, if_pos q] at hf2
    have hp := (fit_app.1 (fit_app.1 hf2).2)
    have hl := (neatB_ok a.1).2.1
    rcases q with q | q
    · cases q; exact written5 i j e cl pe nn i2 j2 st e2 m w he h hp.1 hp.2 (by simp only at hl; omega) hf hn
    · cases q; exact written6 i j e cl pe nn i2 j2 st e2 m w he h hp.1 hp.2 (by simp only at hl; omega) hf hn
  · have hf2 := hf
    unfold dN at hf2
    rw [if_neg n1, if_neg n3, if_neg n5, if_pos q] at hf2
    cases q
    exact written7 i j e cl pe nn i2 j2 st e2 m w he h (fit_app.1 hf2).2 hf hn
  · have k8 := ask8 a0 n1 n3 n5 n7
    have q := k8.1
    have hf2 := hf
    unfold dN at hf2
    rw [if_neg n1, if_neg n3, if_neg n5, if_neg n7, if_pos q] at hf2
    have hp := (fit_app.1 (fit_app.1 hf2).2)
    have hb := k8.2.2.2
    unfold bkB at hb
    simp only [Bool.and_eq_true] at hb
    cases q
    exact written8 i j e cl pe nn i2 j2 st e2 m w he h hp.1 hp.2 (slim_of hb.2.1) hf hn
/-- what Line answers. -/
def lineV (d : D) : Value := if isD d = true then .tuple #[.string (str (lineE d)), .int .i64 0] else .tuple #[.string (str []), .int .i64 14]
set_option maxRecDepth 100000 in
set_option maxHeartbeats 1600000 in
theorem line_any (d : D) (m : DM) (w : World) (he : Env w) (h : DL w d m) : Calls Tryz.prog 10 #[.agg (dC d m).toArray] w (Ans w (lineV d)) := by
  have R := hide (range_new w (dC d m) 34)
  have HB := hide (more (start w) (.cells (dC d m).toArray 34))
  have HI := hide (dIs_c d m _ _ (h.keep HB.out) rfl)
  have HL := hide (h.keep HB.out)
  have HE := hide (he.keep HB.out)
  cases hd : isD d with
  | false =>
    have HV := hide (show lineV d = .tuple #[.string (str []), .int .i64 14] by unfold lineV; rw [hd]; rfl)
    rw [hd] at HI
    clear hd h he HL HE
    go_enter Tryz.func10, Tryz.ntmps10
    go_wp2_with (refine load_deed rfl _ rfl _ _ rfl _ R.out rfl ?_)
    refine HI.out.mono ?_
    rintro e w1 ⟨rfl, hb⟩
    replace HB := hide (andthen HB.out hb)
    clear hb
    go_wp2_with fail
    go_ret2
    exact ⟨by rw [HV.out]; rfl, HB.out⟩
  | true =>
    have HV := hide (show lineV d = .tuple #[.string (str (lineE d)), .int .i64 0] by unfold lineV; rw [if_pos hd])
    have HW := hide (fun w1 he h => written_any d m w1 he h hd)
    have HS := hide (show (jn (dN d)).length ≤ 90000 by have := jn_len _ (dN_small hd).1; have := (dN_small hd).2.1; omega)
    have HJ := hide (show sld (jn (dN d)) = lineE d from rfl)
    rw [hd] at HI
    clear hd h he
    go_enter Tryz.func10, Tryz.ntmps10
    go_wp2_with (refine load_deed rfl _ rfl _ _ rfl _ R.out rfl ?_)
    refine HI.out.mono ?_
    rintro e w1 ⟨rfl, hb⟩
    replace HB := hide (andthen HB.out hb)
    replace HL := hide (HL.out.keep hb)
    replace HE := hide (HE.out.keep hb)
    replace R := hide (range_keep R.out hb)
    clear hb
    go_wp2_with (refine load_deed rfl _ rfl _ _ rfl _ R.out rfl ?_)
    refine (HW.out _ HE.out HL.out).mono ?_
    rintro e w2 ⟨rfl, hb⟩
    replace HB := hide (andthen HB.out hb)
    replace HE := hide (HE.out.keep hb)
    clear hb
    go_wp2_with fail
    refine (sealed_any _ _ HE.out HS.out).mono ?_
    rintro e w3 ⟨rfl, hb⟩
    replace HB := hide (andthen HB.out hb)
    clear hb
    go_wp2_with fail
    go_ret2
    exact ⟨by rw [HV.out, ← HJ.out]; rfl, HB.out⟩
/-- what Read answers. -/
def RdA (w : World) (o : Option D) (e : Ending) (w' : World) : Prop := Go.RowKit.Below w.heap.size w w' ∧ match o with
  | some d => ∃ m, e = .returned (.tuple #[.agg (dC d m).toArray, .int .i64 0]) ∧ DL w' d m
  | none => e = .returned (.tuple #[.agg (dC d0 mD).toArray, .int .i64 20])
/-- two results, the first of them many cells of a block of its own. -/
theorem results_mid2 {fn : Func} {p u : Tmp} {ty : TypeId} (h : fn.results = #[.cell p ty, .tmp u]) (tmps : Array Value) (w : World) (b : Nat) (cs : List Value) (d : TypeDesc) (hp : tmps.getD p undef = .pointer (some ⟨b, 0, none⟩)) (hc : w.rangeAt b 0 cs)
    (hu : Tryz.prog.underlying ty = some d) (hd : d.isRow = true) (hi : (Tryz.prog.info? ty).map (·.size) = some cs.length) : (results fn tmps).run Tryz.prog w = .ok (.tuple #[.agg cs.toArray, tmps.getD u undef]) w := by
  rw [results_cell_tmp h, hp]
  simp only [asAddr, Sem.run_pure, Result.andThen_ok, run_loadVar_mid w b 0 ty cs d hc hu hd hi]
end Go.Proofs.YtlmdceeeahnkcaaGreatDoor

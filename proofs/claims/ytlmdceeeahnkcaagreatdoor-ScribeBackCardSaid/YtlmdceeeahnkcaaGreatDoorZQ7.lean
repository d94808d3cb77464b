/- ScZ; ScWr of the recipes, what is needed of them. -/
import Derived.Test.YtlmdceeeahnkcaaGreatDoorZQ6
import Derived.Test.YtlmdceeeahnkcaaGreatDoorZQ3
namespace Go.Proofs.YtlmdceeeahnkcaaGreatDoor
open Go.RowKit Rul Rt Go.Sort Sc De Cl

theorem fit_one {l : List Int} (h : Fit (seqN oneI l)) : Fit l := by
  have := (fit_cons.1 h).2
  rwa [one_flat] at this
/-- what a call has put aside of its argument stays. -/
theorem box_at {B X : Nat} {w w1 : World} {cs : Array Value} {t : TypeId} (hf : FW B X (w.alloc (.cells cs t)) w1) (hX : X < w.heap.size) (ht : t ≠ 9) (j : Nat) (v : Value) (hj : cs[j]? = some v) : w1.cell? ⟨w.heap.size, j, none⟩ = some v := by
  rw [hf.cell (heap_new w _) (by omega) ht j, World.cell?_alloc_at _ _ _ _ rfl]; exact hj
set_option maxRecDepth 100000 in
set_option maxHeartbeats 1600000 in
set_option linter.unusedSimpArgs false in
theorem wru_any (B X : Nat) (fr ev ct un : Int) (ds : List Wd) (ms ys : List Int) (D M Y : Option Addr) (dc mc yc : Nat) (l : List Tx) (w : World) (h : Wr B X w l) (hD : ∀ w', FW B X w w' → RowD w' D ds) (hM : ∀ w', FW B X w w' → RowI w' M ms) (hY : ∀ w', FW B X w w' → RowI w' Y ys) (hi : Fit (ruN ⟨fr, ev, ct, un, ds, ms, ys⟩)) (hs : ds.length ≤ 1000 ∧ ms.length ≤ 1000 ∧ ys.length ≤ 1000) (hl : l.length ≤ 20000) :
    Calls Tryz.prog 65 #[.pointer (some ⟨X, 0, none⟩), .agg #[.int .i64 fr, .int .i64 ev, .int .i64 ct, .int .i64 un, .slice D ds.length dc, .slice M ms.length mc, .slice Y ys.length yc]] w (Puts B X w l (ruN ⟨fr, ev, ct, un, ds, ms, ys⟩)) := by

  have HX := hide h.lt
  have HW0 := hide (h.alloc (.cells #[.int .i64 fr, .int .i64 ev, .int .i64 ct, .int .i64 un, .slice D ds.length dc, .slice M ms.length mc, .slice Y ys.length yc] 27))
  have G0 : Hid (FW B X (w.alloc (.cells #[.int .i64 fr, .int .i64 ev, .int .i64 ct, .int .i64 un, .slice D ds.length dc, .slice M ms.length mc, .slice Y ys.length yc] 27)) (w.alloc (.cells #[.int .i64 fr, .int .i64 ev, .int .i64 ct, .int .i64 un, .slice D ds.length dc, .slice M ms.length mc, .slice Y ys.length yc] 27))) := hide (FW.refl _ _ _)
  have HF0 := hide ((FW.refl B X w).alloc h.big (.cells #[.int .i64 fr, .int .i64 ev, .int .i64 ct, .int .i64 un, .slice D ds.length dc, .slice M ms.length mc, .slice Y ys.length yc] 27))
  have HD := hide hD
  have HM := hide hM
  have HY := hide hY
  have HS := hide hs
  have HL := hide hl
  have I1 := hide (fit_app.1 hi).1
  have I2 := hide (fit_app.1 (fit_app.1 hi).2).1
  have I3 := hide (fit_app.1 (fit_app.1 (fit_app.1 hi).2).2).1
  have I4 := hide (fit_app.1 (fit_app.1 (fit_app.1 hi).2).2).2
  clear hD hM hY hs hl hi
  clear h
  go_enter Tryz.func65, Tryz.ntmps65
  go_wp2_with fail
  refine (put_new B X [fr, ev, ct, un] 4 (l) (w.alloc (.cells #[.int .i64 fr, .int .i64 ev, .int .i64 ct, .int .i64 un, .slice D ds.length dc, .slice M ms.length mc, .slice Y ys.length yc] 27)) #[.int .i64 fr, .int .i64 ev, .int .i64 ct, .int .i64 un] HW0.out (by simp [cellsI]) rfl I1.out (by simp) (by have := HL.out; omega) (N := w.heap.size + 1) (by simp)).mono ?_
  rintro e w1 ⟨rfl, h1, f1⟩
  have HW1 := hide h1
  have G1 := hide (G0.out.trans f1)
  clear h1 f1
  have s4 := box_at G1.out HX.out (by decide) 4 _ rfl
  go_wp2_with fail
  refine (wwd_any B X ds D _ dc (l ++ ([fr, ev, ct, un]).map Lib.itoa) w1 HW1.out (fun w' hf => HD.out w' (HF0.out.trans (G1.out.trans hf))) rfl I2.out HS.out.1 (by have := HL.out; simp; omega)).mono ?_
  rintro e w2 ⟨rfl, h1, f1⟩
  have HW2 := hide h1
  have G2 := hide (G1.out.trans f1)
  clear h1 f1 s4
  have s5 := box_at G2.out HX.out (by decide) 5 _ rfl
  go_wp2_with fail
  refine (wlist_any B X ms M _ mc (l ++ ([fr, ev, ct, un]).map Lib.itoa ++ (seqN wdI ds).map Lib.itoa) w2 HW2.out (fun w' hf => HM.out w' (HF0.out.trans (G2.out.trans hf))) rfl (fit_one I3.out) HS.out.2.1 (by have := HL.out; have := HS.out; have := seq_len wdI 2 (fun _ => rfl) ds; simp; omega)).mono ?_
  rintro e w3 ⟨rfl, h1, f1⟩
  have HW3 := hide h1
  have G3 := hide (G2.out.trans f1)
  clear h1 f1 s5
  have s6 := box_at G3.out HX.out (by decide) 6 _ rfl
  go_wp2_with fail
  refine (wlist_any B X ys Y _ yc (l ++ ([fr, ev, ct, un]).map Lib.itoa ++ (seqN wdI ds).map Lib.itoa ++ (seqN oneI ms).map Lib.itoa) w3 HW3.out (fun w' hf => HY.out w' (HF0.out.trans (G3.out.trans hf))) rfl (fit_one I4.out) HS.out.2.2 (by have := HL.out; have := HS.out; have := seq_len wdI 2 (fun _ => rfl) ds; have := seq_len oneI 1 (fun _ => rfl) ms; simp; omega)).mono ?_
  rintro e w4 ⟨rfl, h1, f1⟩
  have HW4 := hide h1
  have G4 := hide (G3.out.trans f1)
  clear h1 f1 s6
  go_wp2_with fail
  go_end0
  refine ⟨rfl, ?_, HF0.out.trans G4.out⟩
  have hz := HW4.out
  simpa [ruN] using hz
theorem ru_len (r : Rul.T) : (ruN r).length = 7 + r.ds.length * 2 + r.ms.length + r.ys.length := by
  unfold ruN
  rw [List.length_append, List.length_append, List.length_append, seq_len wdI 2 (fun _ => rfl), seq_len oneI 1 (fun _ => rfl), seq_len oneI 1 (fun _ => rfl)]
  simp only [List.length_cons, List.length_nil]
  omega
set_option maxRecDepth 100000 in
set_option maxHeartbeats 1600000 in
set_option linter.unusedSimpArgs false in
theorem wev_any (B X : Nat) (u t : Tx) (st lg : Int) (o : List Int) (fr ev ct un : Int) (ds : List Wd) (ms ys x : List Int) (O D M Y E : Option Addr) (oc dc mc yc xc : Nat) (l : List Tx) (w : World) (h : Wr B X w l) (hO : ∀ w', FW B X w w' → RowI w' O o) (hD : ∀ w', FW B X w w' → RowD w' D ds) (hM : ∀ w', FW B X w w' → RowI w' M ms) (hY : ∀ w', FW B X w w' → RowI w' Y ys) (hE : ∀ w', FW B X w w' → RowI w' E x) (hi : Fit (evN ⟨u, t, st, lg, o, ⟨fr, ev, ct, un, ds, ms, ys⟩, x⟩)) (hs : u.length ≤ 1000 ∧ t.length ≤ 1000 ∧ o.length ≤ 1000 ∧ (ds.length ≤ 1000 ∧ ms.length ≤ 1000 ∧ ys.length ≤ 1000) ∧ x.length ≤ 1000) (hl : l.length ≤ 1000) :
    Calls Tryz.prog 43 #[.pointer (some ⟨X, 0, none⟩), .agg #[.string (str u), .string (str t), .int .i64 st, .int .i64 lg, .slice O o.length oc, .int .i64 fr, .int .i64 ev, .int .i64 ct, .int .i64 un, .slice D ds.length dc, .slice M ms.length mc, .slice Y ys.length yc, .slice E x.length xc]] w (Puts B X w l (evN ⟨u, t, st, lg, o, ⟨fr, ev, ct, un, ds, ms, ys⟩, x⟩)) := by

  have HX := hide h.lt
  have HW0 := hide (h.alloc (.cells #[.string (str u), .string (str t), .int .i64 st, .int .i64 lg, .slice O o.length oc, .int .i64 fr, .int .i64 ev, .int .i64 ct, .int .i64 un, .slice D ds.length dc, .slice M ms.length mc, .slice Y ys.length yc, .slice E x.length xc] 29))
  have G0 : Hid (FW B X (w.alloc (.cells #[.string (str u), .string (str t), .int .i64 st, .int .i64 lg, .slice O o.length oc, .int .i64 fr, .int .i64 ev, .int .i64 ct, .int .i64 un, .slice D ds.length dc, .slice M ms.length mc, .slice Y ys.length yc, .slice E x.length xc] 29)) (w.alloc (.cells #[.string (str u), .string (str t), .int .i64 st, .int .i64 lg, .slice O o.length oc, .int .i64 fr, .int .i64 ev, .int .i64 ct, .int .i64 un, .slice D ds.length dc, .slice M ms.length mc, .slice Y ys.length yc, .slice E x.length xc] 29))) := hide (FW.refl _ _ _)
  have HF0 := hide ((FW.refl B X w).alloc h.big (.cells #[.string (str u), .string (str t), .int .i64 st, .int .i64 lg, .slice O o.length oc, .int .i64 fr, .int .i64 ev, .int .i64 ct, .int .i64 un, .slice D ds.length dc, .slice M ms.length mc, .slice Y ys.length yc, .slice E x.length xc] 29))
  have HO := hide hO
  have HD := hide hD
  have HM := hide hM
  have HY := hide hY
  have HE := hide hE
  have HS := hide hs
  have HL := hide hl
  have J1 := (fit_app.1 hi).2
  have J2 := (fit_app.1 J1).2
  have J3 := (fit_app.1 J2).2
  have J4 := (fit_app.1 J3).2
  have J5 := (fit_app.1 J4).2
  have I3 := hide (fit_app.1 J2).1
  have I4 := hide (fit_app.1 J3).1
  have I5 := hide (fit_app.1 J4).1
  have I6 := hide J5
  clear hO hD hM hY hE hs hl hi J1 J2 J3 J4 J5
  clear h
  go_enter Tryz.func43, Tryz.ntmps43
  go_wp2_with fail
  refine (wtext_any B X u (l) (w.alloc (.cells #[.string (str u), .string (str t), .int .i64 st, .int .i64 lg, .slice O o.length oc, .int .i64 fr, .int .i64 ev, .int .i64 ct, .int .i64 un, .slice D ds.length dc, .slice M ms.length mc, .slice Y ys.length yc, .slice E x.length xc] 29)) HW0.out HS.out.1 (by have := HL.out; omega)).mono ?_
  rintro e w1 ⟨rfl, h1, f1⟩
  have HW1 := hide h1
  have G1 := hide (G0.out.trans f1)
  clear h1 f1
  have s1 := box_at G1.out HX.out (by decide) 1 _ rfl
  go_wp2_with fail
  refine (wtext_any B X t (l ++ (seqN bt u).map Lib.itoa) w1 HW1.out HS.out.2.1 (by have := HL.out; have := HS.out; have := seq_len bt 1 (fun _ => rfl) u; have := seq_len bt 1 (fun _ => rfl) t; have := seq_len oneI 1 (fun _ => rfl) o; have := ru_len ⟨fr, ev, ct, un, ds, ms, ys⟩; simp only [List.length_append, List.length_map, List.length_cons, List.length_nil] at *; omega)).mono ?_
  rintro e w2 ⟨rfl, h1, f1⟩
  have HW2 := hide h1
  have G2 := hide (G1.out.trans f1)
  clear h1 f1 s1
  have s2 := box_at G2.out HX.out (by decide) 2 _ rfl
  have s3 := box_at G2.out HX.out (by decide) 3 _ rfl
  go_wp2_with fail
  refine (put_new B X [st, lg] 2 (l ++ (seqN bt u).map Lib.itoa ++ (seqN bt t).map Lib.itoa) w2 #[.int .i64 st, .int .i64 lg] HW2.out (by simp [cellsI]) rfl I3.out (by simp) (by have := HL.out; have := HS.out; have := seq_len bt 1 (fun _ => rfl) u; have := seq_len bt 1 (fun _ => rfl) t; have := seq_len oneI 1 (fun _ => rfl) o; have := ru_len ⟨fr, ev, ct, un, ds, ms, ys⟩; simp only [List.length_append, List.length_map, List.length_cons, List.length_nil] at *; omega) rfl).mono ?_
  rintro e w3 ⟨rfl, h1, f1⟩
  have HW3 := hide h1
  have G3 := hide (G2.out.trans f1)
  clear h1 f1 s2 s3
  have s4 := box_at G3.out HX.out (by decide) 4 _ rfl
  go_wp2_with fail
  refine (wlist_any B X o O _ oc (l ++ (seqN bt u).map Lib.itoa ++ (seqN bt t).map Lib.itoa ++ ([st, lg]).map Lib.itoa) w3 HW3.out (fun w' hf => HO.out w' (HF0.out.trans (G3.out.trans hf))) rfl (fit_one I4.out) HS.out.2.2.1 (by have := HL.out; have := HS.out; have := seq_len bt 1 (fun _ => rfl) u; have := seq_len bt 1 (fun _ => rfl) t; have := seq_len oneI 1 (fun _ => rfl) o; have := ru_len ⟨fr, ev, ct, un, ds, ms, ys⟩; simp only [List.length_append, List.length_map, List.length_cons, List.length_nil] at *; omega)).mono ?_
  rintro e w4 ⟨rfl, h1, f1⟩
  have HW4 := hide h1
  have G4 := hide (G3.out.trans f1)
  clear h1 f1 s4
  have s5 := box_at G4.out HX.out (by decide) 5 _ rfl
  have s6 := box_at G4.out HX.out (by decide) 6 _ rfl
  have s7 := box_at G4.out HX.out (by decide) 7 _ rfl
  have s8 := box_at G4.out HX.out (by decide) 8 _ rfl
  have s9 := box_at G4.out HX.out (by decide) 9 _ rfl
  have s10 := box_at G4.out HX.out (by decide) 10 _ rfl
  have s11 := box_at G4.out HX.out (by decide) 11 _ rfl
  go_wp2_with fail
  refine (wru_any B X fr ev ct un ds ms ys D M Y dc mc yc (l ++ (seqN bt u).map Lib.itoa ++ (seqN bt t).map Lib.itoa ++ ([st, lg]).map Lib.itoa ++ (seqN oneI o).map Lib.itoa) w4 HW4.out (fun w' hf => HD.out w' (HF0.out.trans (G4.out.trans hf))) (fun w' hf => HM.out w' (HF0.out.trans (G4.out.trans hf))) (fun w' hf => HY.out w' (HF0.out.trans (G4.out.trans hf))) I5.out HS.out.2.2.2.1 (by have := HL.out; have := HS.out; have := seq_len bt 1 (fun _ => rfl) u; have := seq_len bt 1 (fun _ => rfl) t; have := seq_len oneI 1 (fun _ => rfl) o; have := ru_len ⟨fr, ev, ct, un, ds, ms, ys⟩; simp only [List.length_append, List.length_map, List.length_cons, List.length_nil] at *; omega)).mono ?_
  rintro e w5 ⟨rfl, h1, f1⟩
  have HW5 := hide h1
  have G5 := hide (G4.out.trans f1)
  clear h1 f1 s5 s6 s7 s8 s9 s10 s11
  have s12 := box_at G5.out HX.out (by decide) 12 _ rfl
  go_wp2_with fail
  refine (wlist_any B X x E _ xc (l ++ (seqN bt u).map Lib.itoa ++ (seqN bt t).map Lib.itoa ++ ([st, lg]).map Lib.itoa ++ (seqN oneI o).map Lib.itoa ++ (ruN ⟨fr, ev, ct, un, ds, ms, ys⟩).map Lib.itoa) w5 HW5.out (fun w' hf => HE.out w' (HF0.out.trans (G5.out.trans hf))) rfl (fit_one I6.out) HS.out.2.2.2.2 (by have := HL.out; have := HS.out; have := seq_len bt 1 (fun _ => rfl) u; have := seq_len bt 1 (fun _ => rfl) t; have := seq_len oneI 1 (fun _ => rfl) o; have := ru_len ⟨fr, ev, ct, un, ds, ms, ys⟩; simp only [List.length_append, List.length_map, List.length_cons, List.length_nil] at *; omega)).mono ?_
  rintro e w6 ⟨rfl, h1, f1⟩
  have HW6 := hide h1
  have G6 := hide (G5.out.trans f1)
  clear h1 f1 s12
  go_wp2_with fail
  go_end0
  refine ⟨rfl, ?_, HF0.out.trans G6.out⟩
  have hz := HW6.out
  simpa [evN] using hz
set_option maxRecDepth 100000 in
set_option maxHeartbeats 1600000 in
set_option linter.unusedSimpArgs false in
theorem wbk_any (B X : Nat) (i j q : Int) (u t : Tx) (st lg : Int) (o : List Int) (fr ev ct un : Int) (ds : List Wd) (ms ys x : List Int) (O D M Y E : Option Addr) (oc dc mc yc xc : Nat) (l : List Tx) (w : World) (h : Wr B X w l) (hO : ∀ w', FW B X w w' → RowI w' O o) (hD : ∀ w', FW B X w w' → RowD w' D ds) (hM : ∀ w', FW B X w w' → RowI w' M ms) (hY : ∀ w', FW B X w w' → RowI w' Y ys) (hE : ∀ w', FW B X w w' → RowI w' E x) (hi : Fit (idN (i, j)) ∧ Fit [q] ∧ Fit (evN ⟨u, t, st, lg, o, ⟨fr, ev, ct, un, ds, ms, ys⟩, x⟩)) (hs : u.length ≤ 1000 ∧ t.length ≤ 1000 ∧ o.length ≤ 1000 ∧ (ds.length ≤ 1000 ∧ ms.length ≤ 1000 ∧ ys.length ≤ 1000) ∧ x.length ≤ 1000) (hl : l.length ≤ 900) :
    Calls Tryz.prog 45 #[.pointer (some ⟨X, 0, none⟩), .agg #[.int .i64 i, .int .i64 j, .int .i64 q, .string (str u), .string (str t), .int .i64 st, .int .i64 lg, .slice O o.length oc, .int .i64 fr, .int .i64 ev, .int .i64 ct, .int .i64 un, .slice D ds.length dc, .slice M ms.length mc, .slice Y ys.length yc, .slice E x.length xc]] w (Puts B X w l (bkN ⟨(i, j), q, ⟨u, t, st, lg, o, ⟨fr, ev, ct, un, ds, ms, ys⟩, x⟩⟩)) := by

  have HX := hide h.lt
  have HW0 := hide (h.alloc (.cells #[.int .i64 i, .int .i64 j, .int .i64 q, .string (str u), .string (str t), .int .i64 st, .int .i64 lg, .slice O o.length oc, .int .i64 fr, .int .i64 ev, .int .i64 ct, .int .i64 un, .slice D ds.length dc, .slice M ms.length mc, .slice Y ys.length yc, .slice E x.length xc] 32))
  have G0 : Hid (FW B X (w.alloc (.cells #[.int .i64 i, .int .i64 j, .int .i64 q, .string (str u), .string (str t), .int .i64 st, .int .i64 lg, .slice O o.length oc, .int .i64 fr, .int .i64 ev, .int .i64 ct, .int .i64 un, .slice D ds.length dc, .slice M ms.length mc, .slice Y ys.length yc, .slice E x.length xc] 32)) (w.alloc (.cells #[.int .i64 i, .int .i64 j, .int .i64 q, .string (str u), .string (str t), .int .i64 st, .int .i64 lg, .slice O o.length oc, .int .i64 fr, .int .i64 ev, .int .i64 ct, .int .i64 un, .slice D ds.length dc, .slice M ms.length mc, .slice Y ys.length yc, .slice E x.length xc] 32))) := hide (FW.refl _ _ _)
  have HF0 := hide ((FW.refl B X w).alloc h.big (.cells #[.int .i64 i, .int .i64 j, .int .i64 q, .string (str u), .string (str t), .int .i64 st, .int .i64 lg, .slice O o.length oc, .int .i64 fr, .int .i64 ev, .int .i64 ct, .int .i64 un, .slice D ds.length dc, .slice M ms.length mc, .slice Y ys.length yc, .slice E x.length xc] 32))
  have HO := hide hO
  have HD := hide hD
  have HM := hide hM
  have HY := hide hY
  have HE := hide hE
  have HS := hide hs
  have HL := hide hl
  have HI := hide hi
  clear hO hD hM hY hE hs hl hi
  clear h
  go_enter Tryz.func45, Tryz.ntmps45
  go_wp2_with fail
  refine (wid_any B X i j (l) (w.alloc (.cells #[.int .i64 i, .int .i64 j, .int .i64 q, .string (str u), .string (str t), .int .i64 st, .int .i64 lg, .slice O o.length oc, .int .i64 fr, .int .i64 ev, .int .i64 ct, .int .i64 un, .slice D ds.length dc, .slice M ms.length mc, .slice Y ys.length yc, .slice E x.length xc] 32)) HW0.out HI.out.1 (by have := HL.out; omega)).mono ?_
  rintro e w1 ⟨rfl, h1, f1⟩
  have HW1 := hide h1
  have G1 := hide (G0.out.trans f1)
  clear h1 f1
  have s2 := box_at G1.out HX.out (by decide) 2 _ rfl
  go_wp2_with fail
  refine (put_new B X [q] 1 (l ++ (idN (i, j)).map Lib.itoa) w1 #[.int .i64 q] HW1.out (by simp [cellsI]) rfl HI.out.2.1 (by simp) (by have := HL.out; simp [idN]; omega) rfl).mono ?_
  rintro e w2 ⟨rfl, h1, f1⟩
  have HW2 := hide h1
  have G2 := hide (G1.out.trans f1)
  clear h1 f1 s2
  have s3 := box_at G2.out HX.out (by decide) 3 _ rfl
  have s4 := box_at G2.out HX.out (by decide) 4 _ rfl
  have s5 := box_at G2.out HX.out (by decide) 5 _ rfl
  have s6 := box_at G2.out HX.out (by decide) 6 _ rfl
  have s7 := box_at G2.out HX.out (by decide) 7 _ rfl
  have s8 := box_at G2.out HX.out (by decide) 8 _ rfl
  have s9 := box_at G2.out HX.out (by decide) 9 _ rfl
  have s10 := box_at G2.out HX.out (by decide) 10 _ rfl
  have s11 := box_at G2.out HX.out (by decide) 11 _ rfl
  have s12 := box_at G2.out HX.out (by decide) 12 _ rfl
  have s13 := box_at G2.out HX.out (by decide) 13 _ rfl
  have s14 := box_at G2.out HX.out (by decide) 14 _ rfl
  have s15 := box_at G2.out HX.out (by decide) 15 _ rfl
  go_wp2_with fail
  refine (wev_any B X u t st lg o fr ev ct un ds ms ys x O D M Y E oc dc mc yc xc (l ++ (idN (i, j)).map Lib.itoa ++ ([q]).map Lib.itoa) w2 HW2.out (fun w' hf => HO.out w' (HF0.out.trans (G2.out.trans hf))) (fun w' hf => HD.out w' (HF0.out.trans (G2.out.trans hf))) (fun w' hf => HM.out w' (HF0.out.trans (G2.out.trans hf))) (fun w' hf => HY.out w' (HF0.out.trans (G2.out.trans hf))) (fun w' hf => HE.out w' (HF0.out.trans (G2.out.trans hf))) HI.out.2.2 HS.out (by have := HL.out; simp [idN]; omega)).mono ?_
  rintro e w3 ⟨rfl, h1, f1⟩
  have HW3 := hide h1
  have G3 := hide (G2.out.trans f1)
  clear h1 f1 s3 s4 s5 s6 s7 s8 s9 s10 s11 s12 s13 s14 s15
  go_wp2_with fail
  go_end0
  refine ⟨rfl, ?_, HF0.out.trans G3.out⟩
  have hz := HW3.out
  simpa [bkN] using hz
end Go.Proofs.YtlmdceeeahnkcaaGreatDoor
namespace Go.Proofs.YtlmdceeeahnkcaaGreatDoor
open Go.RowKit Rul Rt Go.Sort Sc De Cl

theorem range_below {w w1 : World} {B b f : Nat} {cs : List Value} (h : w.rangeAt b f cs) (hb : Below B w w1) (hl : b < B) : w1.rangeAt b f cs := fun j v hv => (hb.cell (p := ⟨b, _, none⟩) hl).trans (h j v hv)
/-- an event that is one has few of all. -/
structure Slim (e : Ev.E) : Prop where
  u : e.uid.length ≤ 1000
  t : e.text.length ≤ 1000
  o : e.rooms.length ≤ 1000
  d : e.r.ds.length ≤ 1000
  m : e.r.ms.length ≤ 1000
  y : e.r.ys.length ≤ 1000
  x : e.ex.length ≤ 1000
theorem slim_of {e : Ev.E} (h : Ev.isE e = true) : Slim e := by
  have q := (ev_small h).2
  unfold evN at q
  simp only [List.length_append, seq_len bt 1 (fun _ => rfl), seq_len oneI 1 (fun _ => rfl), ru_len] at q
  constructor <;> omega
theorem wev_c (B X : Nat) (e : Ev.E) (m : Mem) (l : List Tx) (w : World) (h : Wr B X w l) (hL : ∀ w', FW B X w w' → EvL w' e m) (hi : Fit (evN e)) (hs : Slim e) (hl : l.length ≤ 1000) :
    Calls Tryz.prog 43 #[.pointer (some ⟨X, 0, none⟩), .agg (evC e m).toArray] w (Puts B X w l (evN e)) := by
  obtain ⟨u, t, st, lg, o, ⟨fr, ev, ct, un, ds, ms, ys⟩, x⟩ := e
  obtain ⟨O, oc, D, dc, M, mc, Y, yc, E, xc⟩ := m
  exact wev_any B X u t st lg o fr ev ct un ds ms ys x O D M Y E oc dc mc yc xc l w h (fun w' f => (hL w' f).o) (fun w' f => (hL w' f).r.d) (fun w' f => (hL w' f).r.m) (fun w' f => (hL w' f).r.y) (fun w' f => (hL w' f).x) hi ⟨hs.u, hs.t, hs.o, ⟨hs.d, hs.m, hs.y⟩, hs.x⟩ hl
theorem wbk_c (Bd X : Nat) (b : De.B) (m : Mem) (l : List Tx) (w : World) (h : Wr Bd X w l) (hL : ∀ w', FW Bd X w w' → EvL w' b.e m) (hi : Fit (bkN b)) (hs : Slim b.e) (hl : l.length ≤ 900) :
    Calls Tryz.prog 45 #[.pointer (some ⟨X, 0, none⟩), .agg (bkC b m).toArray] w (Puts Bd X w l (bkN b)) := by
  obtain ⟨⟨i, j⟩, q, ⟨u, t, st, lg, o, ⟨fr, ev, ct, un, ds, ms, ys⟩, x⟩⟩ := b
  obtain ⟨O, oc, D, dc, M, mc, Y, yc, E, xc⟩ := m
  exact wbk_any Bd X i j q u t st lg o fr ev ct un ds ms ys x O D M Y E oc dc mc yc xc l w h (fun w' f => (hL w' f).o) (fun w' f => (hL w' f).r.d) (fun w' f => (hL w' f).r.m) (fun w' f => (hL w' f).r.y) (fun w' f => (hL w' f).x) ⟨(fit_app.1 hi).1, (fit_app.1 (fit_app.1 hi).2).1, (fit_app.1 (fit_app.1 hi).2).2⟩ ⟨hs.u, hs.t, hs.o, ⟨hs.d, hs.m, hs.y⟩, hs.x⟩ hl
/-- the writer's world at its beginning. -/
abbrev wr0 (w : World) (d : D) (m : DM) : World := (w.alloc (.cells (dC d m).toArray 34)).alloc (.cells #[.slice none 0 0] 78)
theorem wr0_size (w : World) (d : D) (m : DM) : (wr0 w d m).heap.size = w.heap.size + 2 := by simp
theorem wr0_below (w : World) (d : D) (m : DM) : Below w.heap.size w (wr0 w d m) := more (more (start w) _) _
theorem wr0_is (w : World) (d : D) (m : DM) (he : Env w) : Wr (w.heap.size + 1) (w.heap.size + 1) (wr0 w d m) [] :=
  have hs : (w.alloc (.cells (dC d m).toArray 34)).heap.size = w.heap.size + 1 := by simp
  have e1 : EnvB (w.heap.size + 1) (wr0 w d m) := (((he.keep (more (start w) (.cells (dC d m).toArray 34))).b).on (more (start _) _)) |> fun h => hs ▸ h
  ⟨e1, Nat.le_refl _, by simp, ⟨.slice none 0 0, by rw [← hs, World.cell?_alloc_at _ _ _ _ rfl]; rfl, ownS_nil _ _⟩, by rw [← hs]; exact World.frozen?_alloc_at _ _ _ _ rfl⟩
theorem wr0_range (w : World) (d : D) (m : DM) : (wr0 w d m).rangeAt w.heap.size 0 (dC d m) := range_keep (range_new w (dC d m) 34) (more (start _) _)
set_option maxRecDepth 100000 in
set_option maxHeartbeats 3200000 in
theorem written1 (i j : Int) (e : Ev.E) (cl : List C) (pe nn i2 j2 st : Int) (e2 : Ev.E) (m : DM) (w : World) (he : Env w) (h : DL w ⟨1, (i, j), e, cl, pe, nn, ⟨(i2, j2), st, e2⟩⟩ m) (hid : Fit (idN (i, j))) (hev : Fit (evN e)) (hes : Slim e) (hfit : Fit (dN ⟨1, (i, j), e, cl, pe, nn, ⟨(i2, j2), st, e2⟩⟩)) (hsz : (dN ⟨1, (i, j), e, cl, pe, nn, ⟨(i2, j2), st, e2⟩⟩).length ≤ 1000) :
    Calls Tryz.prog 17 #[.agg (dC ⟨1, (i, j), e, cl, pe, nn, ⟨(i2, j2), st, e2⟩⟩ m).toArray] w (Ans w (.string (str (jn (dN ⟨1, (i, j), e, cl, pe, nn, ⟨(i2, j2), st, e2⟩⟩))))) := by
  have HFT := hide hfit
  have HSZ := hide (Nat.le_trans hsz (by decide : 1000 ≤ 10000))
  clear hfit hsz
  have H0 := hide (wr0_is w ⟨1, (i, j), e, cl, pe, nn, ⟨(i2, j2), st, e2⟩⟩ m he)
  have HA := hide (wr0_below w ⟨1, (i, j), e, cl, pe, nn, ⟨(i2, j2), st, e2⟩⟩ m)
  have R0 := wr0_range w ⟨1, (i, j), e, cl, pe, nn, ⟨(i2, j2), st, e2⟩⟩ m
  have HR := hide R0
  have HLE := hide (fun w' (f : FW (w.heap.size + 1) (w.heap.size + 1) (wr0 w ⟨1, (i, j), e, cl, pe, nn, ⟨(i2, j2), st, e2⟩⟩ m) w') => h.e.keep (HA.out.trans (f.below.mono (Nat.le_succ _))))
  have HLC := hide (fun w' (f : FW (w.heap.size + 1) (w.heap.size + 1) (wr0 w ⟨1, (i, j), e, cl, pe, nn, ⟨(i2, j2), st, e2⟩⟩ m) w') => h.c.keep (HA.out.trans (f.below.mono (Nat.le_succ _))))
  have HLB := hide (fun w' (f : FW (w.heap.size + 1) (w.heap.size + 1) (wr0 w ⟨1, (i, j), e, cl, pe, nn, ⟨(i2, j2), st, e2⟩⟩ m) w') => h.b.keep (HA.out.trans (f.below.mono (Nat.le_succ _))))
  have a0 := range_cell R0 0 0 _ rfl rfl
  have IF := hide hid
  clear hid
  have EF := hide hev
  have ES := hide hes
  clear hev hes
  clear R0 h he HLC HLB
  go_enter Tryz.func17, Tryz.ntmps17
  go_wp2_with fail
  refine (put_new _ _ [1] 1 [] _ #[.int .i64 1] H0.out rfl rfl (by unfold Fit in64; simp) (by simp) (by simp) (N := w.heap.size + 2) (wr0_size w ⟨1, (i, j), e, cl, pe, nn, ⟨(i2, j2), st, e2⟩⟩ m)).mono ?_
  rintro q w1 ⟨rfl, h1, f1⟩
  have H1 := hide h1
  have G1 := hide f1
  have b0 := range_cell (range_below HR.out f1.below (Nat.lt_succ_self _)) 0 0 _ rfl rfl
  clear h1 f1 a0
  have a1 := range_cell (range_below HR.out G1.out.below (Nat.lt_succ_self _)) 1 1 _ rfl rfl
  have a2 := range_cell (range_below HR.out G1.out.below (Nat.lt_succ_self _)) 2 2 _ rfl rfl
  go_wp2_with fail
  refine (wid_any _ _ i j ([] ++ [1].map Lib.itoa) w1 H1.out IF.out (by simp)).mono ?_
  rintro q w2 ⟨rfl, h1, f1⟩
  have H2 := hide h1
  have G2 := hide (G1.out.trans f1)
  clear h1 f1 b0 a1 a2
  have E0 := hide (dAt_of (range_below HR.out G2.out.below (Nat.lt_succ_self _))).ev
  go_wp2_with (refine load_event rfl _ rfl _ _ rfl _ E0.out rfl ?_)
  refine (wev_c _ _ e m.e (([] ++ [1].map Lib.itoa) ++ (idN (i, j)).map Lib.itoa) w2 H2.out (fun w' f => HLE.out w' (G2.out.trans f)) EF.out ES.out (by simp [idN])).mono ?_
  rintro q w3 ⟨rfl, h1, f1⟩
  have H3 := hide h1
  have G3 := hide (G2.out.trans f1)
  clear h1 f1 E0
  have HE : Hid (((([] ++ [1].map Lib.itoa) ++ (idN (i, j)).map Lib.itoa) ++ (evN e).map Lib.itoa) = (dN ⟨1, (i, j), e, cl, pe, nn, ⟨(i2, j2), st, e2⟩⟩).map Lib.itoa) := hide (by unfold dN; simp)
  have HW := H3.out
  rw [HE.out] at HW
  obtain ⟨v, hv, ho⟩ := HW.row
  obtain ⟨A, cap, rfl, hrow, hcap⟩ := OwnS.row ho
  rw [List.length_map] at hv
  have HJ := hide (joined_any A (dN ⟨1, (i, j), e, cl, pe, nn, ⟨(i2, j2), st, e2⟩⟩).length cap _ w3 hrow (List.length_map _).symm hcap (by rw [List.length_map]; exact HSZ.out) (fun p hp => by
    obtain ⟨x, hx, rfl⟩ := List.mem_map.1 hp
    have := HFT.out x hx
    have := Lib.itoa_length_le x this.1 this.2
    omega))
  clear ho hrow hcap HW
  generalize (dN ⟨1, (i, j), e, cl, pe, nn, ⟨(i2, j2), st, e2⟩⟩).length = L at hv HJ
  go_wp2_with fail
  refine HJ.out.mono ?_
  rintro q w4 ⟨rfl, hb⟩
  have HB := hide (HA.out.trans ((G3.out.below.mono (Nat.le_succ _)).trans (hb.mono (Nat.le_trans HA.out.size G3.out.size))))
  clear hb hv
  go_wp2_with fail
  go_ret
  exact ⟨rfl, HB.out⟩
set_option maxRecDepth 100000 in
set_option maxHeartbeats 3200000 in
theorem written2 (i j : Int) (e : Ev.E) (cl : List C) (pe nn i2 j2 st : Int) (e2 : Ev.E) (m : DM) (w : World) (he : Env w) (h : DL w ⟨2, (i, j), e, cl, pe, nn, ⟨(i2, j2), st, e2⟩⟩ m) (hid : Fit (idN (i, j))) (hev : Fit (evN e)) (hes : Slim e) (hfit : Fit (dN ⟨2, (i, j), e, cl, pe, nn, ⟨(i2, j2), st, e2⟩⟩)) (hsz : (dN ⟨2, (i, j), e, cl, pe, nn, ⟨(i2, j2), st, e2⟩⟩).length ≤ 1000) :
    Calls Tryz.prog 17 #[.agg (dC ⟨2, (i, j), e, cl, pe, nn, ⟨(i2, j2), st, e2⟩⟩ m).toArray] w (Ans w (.string (str (jn (dN ⟨2, (i, j), e, cl, pe, nn, ⟨(i2, j2), st, e2⟩⟩))))) := by
  have HFT := hide hfit
  have HSZ := hide (Nat.le_trans hsz (by decide : 1000 ≤ 10000))
  clear hfit hsz
  have H0 := hide (wr0_is w ⟨2, (i, j), e, cl, pe, nn, ⟨(i2, j2), st, e2⟩⟩ m he)
  have HA := hide (wr0_below w ⟨2, (i, j), e, cl, pe, nn, ⟨(i2, j2), st, e2⟩⟩ m)
  have R0 := wr0_range w ⟨2, (i, j), e, cl, pe, nn, ⟨(i2, j2), st, e2⟩⟩ m
  have HR := hide R0
  have HLE := hide (fun w' (f : FW (w.heap.size + 1) (w.heap.size + 1) (wr0 w ⟨2, (i, j), e, cl, pe, nn, ⟨(i2, j2), st, e2⟩⟩ m) w') => h.e.keep (HA.out.trans (f.below.mono (Nat.le_succ _))))
  have HLC := hide (fun w' (f : FW (w.heap.size + 1) (w.heap.size + 1) (wr0 w ⟨2, (i, j), e, cl, pe, nn, ⟨(i2, j2), st, e2⟩⟩ m) w') => h.c.keep (HA.out.trans (f.below.mono (Nat.le_succ _))))
  have HLB := hide (fun w' (f : FW (w.heap.size + 1) (w.heap.size + 1) (wr0 w ⟨2, (i, j), e, cl, pe, nn, ⟨(i2, j2), st, e2⟩⟩ m) w') => h.b.keep (HA.out.trans (f.below.mono (Nat.le_succ _))))
  have a0 := range_cell R0 0 0 _ rfl rfl
  have IF := hide hid
  clear hid
  have EF := hide hev
  have ES := hide hes
  clear hev hes
  clear R0 h he HLC HLB
  go_enter Tryz.func17, Tryz.ntmps17
  go_wp2_with fail
  refine (put_new _ _ [2] 1 [] _ #[.int .i64 2] H0.out rfl rfl (by unfold Fit in64; simp) (by simp) (by simp) (N := w.heap.size + 2) (wr0_size w ⟨2, (i, j), e, cl, pe, nn, ⟨(i2, j2), st, e2⟩⟩ m)).mono ?_
  rintro q w1 ⟨rfl, h1, f1⟩
  have H1 := hide h1
  have G1 := hide f1
  have b0 := range_cell (range_below HR.out f1.below (Nat.lt_succ_self _)) 0 0 _ rfl rfl
  clear h1 f1 a0
  have a1 := range_cell (range_below HR.out G1.out.below (Nat.lt_succ_self _)) 1 1 _ rfl rfl
  have a2 := range_cell (range_below HR.out G1.out.below (Nat.lt_succ_self _)) 2 2 _ rfl rfl
  go_wp2_with fail
  refine (wid_any _ _ i j ([] ++ [2].map Lib.itoa) w1 H1.out IF.out (by simp)).mono ?_
  rintro q w2 ⟨rfl, h1, f1⟩
  have H2 := hide h1
  have G2 := hide (G1.out.trans f1)
  clear h1 f1 b0 a1 a2
  have E0 := hide (dAt_of (range_below HR.out G2.out.below (Nat.lt_succ_self _))).ev
  go_wp2_with (refine load_event rfl _ rfl _ _ rfl _ E0.out rfl ?_)
  refine (wev_c _ _ e m.e (([] ++ [2].map Lib.itoa) ++ (idN (i, j)).map Lib.itoa) w2 H2.out (fun w' f => HLE.out w' (G2.out.trans f)) EF.out ES.out (by simp [idN])).mono ?_
  rintro q w3 ⟨rfl, h1, f1⟩
  have H3 := hide h1
  have G3 := hide (G2.out.trans f1)
  clear h1 f1 E0
  have HE : Hid (((([] ++ [2].map Lib.itoa) ++ (idN (i, j)).map Lib.itoa) ++ (evN e).map Lib.itoa) = (dN ⟨2, (i, j), e, cl, pe, nn, ⟨(i2, j2), st, e2⟩⟩).map Lib.itoa) := hide (by unfold dN; simp)
  have HW := H3.out
  rw [HE.out] at HW
  obtain ⟨v, hv, ho⟩ := HW.row
  obtain ⟨A, cap, rfl, hrow, hcap⟩ := OwnS.row ho
  rw [List.length_map] at hv
  have HJ := hide (joined_any A (dN ⟨2, (i, j), e, cl, pe, nn, ⟨(i2, j2), st, e2⟩⟩).length cap _ w3 hrow (List.length_map _).symm hcap (by rw [List.length_map]; exact HSZ.out) (fun p hp => by
    obtain ⟨x, hx, rfl⟩ := List.mem_map.1 hp
    have := HFT.out x hx
    have := Lib.itoa_length_le x this.1 this.2
    omega))
  clear ho hrow hcap HW
  generalize (dN ⟨2, (i, j), e, cl, pe, nn, ⟨(i2, j2), st, e2⟩⟩).length = L at hv HJ
  go_wp2_with fail
  refine HJ.out.mono ?_
  rintro q w4 ⟨rfl, hb⟩
  have HB := hide (HA.out.trans ((G3.out.below.mono (Nat.le_succ _)).trans (hb.mono (Nat.le_trans HA.out.size G3.out.size))))
  clear hb hv
  go_wp2_with fail
  go_ret
  exact ⟨rfl, HB.out⟩
set_option maxRecDepth 100000 in
set_option maxHeartbeats 3200000 in
theorem written3 (i j : Int) (e : Ev.E) (cl : List C) (pe nn i2 j2 st : Int) (e2 : Ev.E) (m : DM) (w : World) (he : Env w) (h : DL w ⟨3, (i, j), e, cl, pe, nn, ⟨(i2, j2), st, e2⟩⟩ m) (hid : Fit (idN (i, j))) (hfit : Fit (dN ⟨3, (i, j), e, cl, pe, nn, ⟨(i2, j2), st, e2⟩⟩)) (hsz : (dN ⟨3, (i, j), e, cl, pe, nn, ⟨(i2, j2), st, e2⟩⟩).length ≤ 1000) :
    Calls Tryz.prog 17 #[.agg (dC ⟨3, (i, j), e, cl, pe, nn, ⟨(i2, j2), st, e2⟩⟩ m).toArray] w (Ans w (.string (str (jn (dN ⟨3, (i, j), e, cl, pe, nn, ⟨(i2, j2), st, e2⟩⟩))))) := by
  have HFT := hide hfit
  have HSZ := hide (Nat.le_trans hsz (by decide : 1000 ≤ 10000))
  clear hfit hsz
  have H0 := hide (wr0_is w ⟨3, (i, j), e, cl, pe, nn, ⟨(i2, j2), st, e2⟩⟩ m he)
  have HA := hide (wr0_below w ⟨3, (i, j), e, cl, pe, nn, ⟨(i2, j2), st, e2⟩⟩ m)
  have R0 := wr0_range w ⟨3, (i, j), e, cl, pe, nn, ⟨(i2, j2), st, e2⟩⟩ m
  have HR := hide R0
  have HLE := hide (fun w' (f : FW (w.heap.size + 1) (w.heap.size + 1) (wr0 w ⟨3, (i, j), e, cl, pe, nn, ⟨(i2, j2), st, e2⟩⟩ m) w') => h.e.keep (HA.out.trans (f.below.mono (Nat.le_succ _))))
  have HLC := hide (fun w' (f : FW (w.heap.size + 1) (w.heap.size + 1) (wr0 w ⟨3, (i, j), e, cl, pe, nn, ⟨(i2, j2), st, e2⟩⟩ m) w') => h.c.keep (HA.out.trans (f.below.mono (Nat.le_succ _))))
  have HLB := hide (fun w' (f : FW (w.heap.size + 1) (w.heap.size + 1) (wr0 w ⟨3, (i, j), e, cl, pe, nn, ⟨(i2, j2), st, e2⟩⟩ m) w') => h.b.keep (HA.out.trans (f.below.mono (Nat.le_succ _))))
  have a0 := range_cell R0 0 0 _ rfl rfl
  have IF := hide hid
  clear hid
  clear R0 h he HLE HLC HLB
  go_enter Tryz.func17, Tryz.ntmps17
  go_wp2_with fail
  refine (put_new _ _ [3] 1 [] _ #[.int .i64 3] H0.out rfl rfl (by unfold Fit in64; simp) (by simp) (by simp) (N := w.heap.size + 2) (wr0_size w ⟨3, (i, j), e, cl, pe, nn, ⟨(i2, j2), st, e2⟩⟩ m)).mono ?_
  rintro q w1 ⟨rfl, h1, f1⟩
  have H1 := hide h1
  have G1 := hide f1
  have b0 := range_cell (range_below HR.out f1.below (Nat.lt_succ_self _)) 0 0 _ rfl rfl
  clear h1 f1 a0
  have a1 := range_cell (range_below HR.out G1.out.below (Nat.lt_succ_self _)) 1 1 _ rfl rfl
  have a2 := range_cell (range_below HR.out G1.out.below (Nat.lt_succ_self _)) 2 2 _ rfl rfl
  go_wp2_with fail
  refine (wid_any _ _ i j ([] ++ [3].map Lib.itoa) w1 H1.out IF.out (by simp)).mono ?_
  rintro q w2 ⟨rfl, h1, f1⟩
  have H2 := hide h1
  have G2 := hide (G1.out.trans f1)
  clear h1 f1 b0 a1 a2
  have HE : Hid ((([] ++ [3].map Lib.itoa) ++ (idN (i, j)).map Lib.itoa) = (dN ⟨3, (i, j), e, cl, pe, nn, ⟨(i2, j2), st, e2⟩⟩).map Lib.itoa) := hide (by unfold dN; simp)
  have HW := H2.out
  rw [HE.out] at HW
  obtain ⟨v, hv, ho⟩ := HW.row
  obtain ⟨A, cap, rfl, hrow, hcap⟩ := OwnS.row ho
  rw [List.length_map] at hv
  have HJ := hide (joined_any A (dN ⟨3, (i, j), e, cl, pe, nn, ⟨(i2, j2), st, e2⟩⟩).length cap _ w2 hrow (List.length_map _).symm hcap (by rw [List.length_map]; exact HSZ.out) (fun p hp => by
    obtain ⟨x, hx, rfl⟩ := List.mem_map.1 hp
    have := HFT.out x hx
    have := Lib.itoa_length_le x this.1 this.2
    omega))
  clear ho hrow hcap HW
  generalize (dN ⟨3, (i, j), e, cl, pe, nn, ⟨(i2, j2), st, e2⟩⟩).length = L at hv HJ
  go_wp2_with fail
  refine HJ.out.mono ?_
  rintro q w3 ⟨rfl, hb⟩
  have HB := hide (HA.out.trans ((G2.out.below.mono (Nat.le_succ _)).trans (hb.mono (Nat.le_trans HA.out.size G2.out.size))))
  clear hb hv
  go_wp2_with fail
  go_ret
  exact ⟨rfl, HB.out⟩
set_option maxRecDepth 100000 in
set_option maxHeartbeats 3200000 in
theorem written4 (i j : Int) (e : Ev.E) (cl : List C) (pe nn i2 j2 st : Int) (e2 : Ev.E) (m : DM) (w : World) (he : Env w) (h : DL w ⟨4, (i, j), e, cl, pe, nn, ⟨(i2, j2), st, e2⟩⟩ m) (hid : Fit (idN (i, j))) (hfit : Fit (dN ⟨4, (i, j), e, cl, pe, nn, ⟨(i2, j2), st, e2⟩⟩)) (hsz : (dN ⟨4, (i, j), e, cl, pe, nn, ⟨(i2, j2), st, e2⟩⟩).length ≤ 1000) :
    Calls Tryz.prog 17 #[.agg (dC ⟨4, (i, j), e, cl, pe, nn, ⟨(i2, j2), st, e2⟩⟩ m).toArray] w (Ans w (.string (str (jn (dN ⟨4, (i, j), e, cl, pe, nn, ⟨(i2, j2), st, e2⟩⟩))))) := by
  have HFT := hide hfit
  have HSZ := hide (Nat.le_trans hsz (by decide : 1000 ≤ 10000))
  clear hfit hsz
  have H0 := hide (wr0_is w ⟨4, (i, j), e, cl, pe, nn, ⟨(i2, j2), st, e2⟩⟩ m he)
  have HA := hide (wr0_below w ⟨4, (i, j), e, cl, pe, nn, ⟨(i2, j2), st, e2⟩⟩ m)
  have R0 := wr0_range w ⟨4, (i, j), e, cl, pe, nn, ⟨(i2, j2), st, e2⟩⟩ m
  have HR := hide R0
  have HLE := hide (fun w' (f : FW (w.heap.size + 1) (w.heap.size + 1) (wr0 w ⟨4, (i, j), e, cl, pe, nn, ⟨(i2, j2), st, e2⟩⟩ m) w') => h.e.keep (HA.out.trans (f.below.mono (Nat.le_succ _))))
  have HLC := hide (fun w' (f : FW (w.heap.size + 1) (w.heap.size + 1) (wr0 w ⟨4, (i, j), e, cl, pe, nn, ⟨(i2, j2), st, e2⟩⟩ m) w') => h.c.keep (HA.out.trans (f.below.mono (Nat.le_succ _))))
  have HLB := hide (fun w' (f : FW (w.heap.size + 1) (w.heap.size + 1) (wr0 w ⟨4, (i, j), e, cl, pe, nn, ⟨(i2, j2), st, e2⟩⟩ m) w') => h.b.keep (HA.out.trans (f.below.mono (Nat.le_succ _))))
  have a0 := range_cell R0 0 0 _ rfl rfl
  have IF := hide hid
  clear hid
  clear R0 h he HLE HLC HLB
  go_enter Tryz.func17, Tryz.ntmps17
  go_wp2_with fail
  refine (put_new _ _ [4] 1 [] _ #[.int .i64 4] H0.out rfl rfl (by unfold Fit in64; simp) (by simp) (by simp) (N := w.heap.size + 2) (wr0_size w ⟨4, (i, j), e, cl, pe, nn, ⟨(i2, j2), st, e2⟩⟩ m)).mono ?_
  rintro q w1 ⟨rfl, h1, f1⟩
  have H1 := hide h1
  have G1 := hide f1
  have b0 := range_cell (range_below HR.out f1.below (Nat.lt_succ_self _)) 0 0 _ rfl rfl
  clear h1 f1 a0
  have a1 := range_cell (range_below HR.out G1.out.below (Nat.lt_succ_self _)) 1 1 _ rfl rfl
  have a2 := range_cell (range_below HR.out G1.out.below (Nat.lt_succ_self _)) 2 2 _ rfl rfl
  go_wp2_with fail
  refine (wid_any _ _ i j ([] ++ [4].map Lib.itoa) w1 H1.out IF.out (by simp)).mono ?_
  rintro q w2 ⟨rfl, h1, f1⟩
  have H2 := hide h1
  have G2 := hide (G1.out.trans f1)
  clear h1 f1 b0 a1 a2
  have HE : Hid ((([] ++ [4].map Lib.itoa) ++ (idN (i, j)).map Lib.itoa) = (dN ⟨4, (i, j), e, cl, pe, nn, ⟨(i2, j2), st, e2⟩⟩).map Lib.itoa) := hide (by unfold dN; simp)
  have HW := H2.out
  rw [HE.out] at HW
  obtain ⟨v, hv, ho⟩ := HW.row
  obtain ⟨A, cap, rfl, hrow, hcap⟩ := OwnS.row ho
  rw [List.length_map] at hv
  have HJ := hide (joined_any A (dN ⟨4, (i, j), e, cl, pe, nn, ⟨(i2, j2), st, e2⟩⟩).length cap _ w2 hrow (List.length_map _).symm hcap (by rw [List.length_map]; exact HSZ.out) (fun p hp => by
    obtain ⟨x, hx, rfl⟩ := List.mem_map.1 hp
    have := HFT.out x hx
    have := Lib.itoa_length_le x this.1 this.2
    omega))
  clear ho hrow hcap HW
  generalize (dN ⟨4, (i, j), e, cl, pe, nn, ⟨(i2, j2), st, e2⟩⟩).length = L at hv HJ
  go_wp2_with fail
  refine HJ.out.mono ?_
  rintro q w3 ⟨rfl, hb⟩
  have HB := hide (HA.out.trans ((G2.out.below.mono (Nat.le_succ _)).trans (hb.mono (Nat.le_trans HA.out.size G2.out.size))))
  clear hb hv
  go_wp2_with fail
  go_ret
  exact ⟨rfl, HB.out⟩
set_option maxRecDepth 100000 in
set_option maxHeartbeats 3200000 in
theorem written5 (i j : Int) (e : Ev.E) (cl : List C) (pe nn i2 j2 st : Int) (e2 : Ev.E) (m : DM) (w : World) (he : Env w) (h : DL w ⟨5, (i, j), e, cl, pe, nn, ⟨(i2, j2), st, e2⟩⟩ m) (hpn : Fit [pe, nn]) (hcl : Fit (seqN clI cl)) (hcs : cl.length ≤ 1000) (hfit : Fit (dN ⟨5, (i, j), e, cl, pe, nn, ⟨(i2, j2), st, e2⟩⟩)) (hsz : (dN ⟨5, (i, j), e, cl, pe, nn, ⟨(i2, j2), st, e2⟩⟩).length ≤ 1000) :
    Calls Tryz.prog 17 #[.agg (dC ⟨5, (i, j), e, cl, pe, nn, ⟨(i2, j2), st, e2⟩⟩ m).toArray] w (Ans w (.string (str (jn (dN ⟨5, (i, j), e, cl, pe, nn, ⟨(i2, j2), st, e2⟩⟩))))) := by
  have HFT := hide hfit
  have HSZ := hide (Nat.le_trans hsz (by decide : 1000 ≤ 10000))
  clear hfit hsz
  have H0 := hide (wr0_is w ⟨5, (i, j), e, cl, pe, nn, ⟨(i2, j2), st, e2⟩⟩ m he)
  have HA := hide (wr0_below w ⟨5, (i, j), e, cl, pe, nn, ⟨(i2, j2), st, e2⟩⟩ m)
  have R0 := wr0_range w ⟨5, (i, j), e, cl, pe, nn, ⟨(i2, j2), st, e2⟩⟩ m
  have HR := hide R0
  have HLE := hide (fun w' (f : FW (w.heap.size + 1) (w.heap.size + 1) (wr0 w ⟨5, (i, j), e, cl, pe, nn, ⟨(i2, j2), st, e2⟩⟩ m) w') => h.e.keep (HA.out.trans (f.below.mono (Nat.le_succ _))))
  have HLC := hide (fun w' (f : FW (w.heap.size + 1) (w.heap.size + 1) (wr0 w ⟨5, (i, j), e, cl, pe, nn, ⟨(i2, j2), st, e2⟩⟩ m) w') => h.c.keep (HA.out.trans (f.below.mono (Nat.le_succ _))))
  have HLB := hide (fun w' (f : FW (w.heap.size + 1) (w.heap.size + 1) (wr0 w ⟨5, (i, j), e, cl, pe, nn, ⟨(i2, j2), st, e2⟩⟩ m) w') => h.b.keep (HA.out.trans (f.below.mono (Nat.le_succ _))))
  have a0 := range_cell R0 0 0 _ rfl rfl
  have PF := hide hpn
  clear hpn
  have CF := hide hcl
  have CS := hide hcs
  clear hcl hcs
  clear R0 h he HLE HLB
  go_enter Tryz.func17, Tryz.ntmps17
  go_wp2_with fail
  refine (put_new _ _ [5] 1 [] _ #[.int .i64 5] H0.out rfl rfl (by unfold Fit in64; simp) (by simp) (by simp) (N := w.heap.size + 2) (wr0_size w ⟨5, (i, j), e, cl, pe, nn, ⟨(i2, j2), st, e2⟩⟩ m)).mono ?_
  rintro q w1 ⟨rfl, h1, f1⟩
  have H1 := hide h1
  have G1 := hide f1
  have b0 := range_cell (range_below HR.out f1.below (Nat.lt_succ_self _)) 0 0 _ rfl rfl
  clear h1 f1 a0
  have a17 := range_cell (range_below HR.out G1.out.below (Nat.lt_succ_self _)) 17 17 _ rfl rfl
  have a18 := range_cell (range_below HR.out G1.out.below (Nat.lt_succ_self _)) 18 18 _ rfl rfl
  go_wp2_with fail
  refine (put_new _ _ [pe, nn] 2 ([] ++ [5].map Lib.itoa) w1 #[.int .i64 pe, .int .i64 nn] H1.out (by simp [cellsI]) rfl PF.out (by simp) (by simp) rfl).mono ?_
  rintro q w2 ⟨rfl, h1, f1⟩
  have H2 := hide h1
  have G2 := hide (G1.out.trans f1)
  clear h1 f1 b0 a17 a18
  have a16 := range_cell (range_below HR.out G2.out.below (Nat.lt_succ_self _)) 16 16 _ rfl rfl
  go_wp2_with fail
  refine (wcl_any _ _ cl m.A _ m.c (([] ++ [5].map Lib.itoa) ++ ([pe, nn]).map Lib.itoa) w2 H2.out (fun w' f => HLC.out w' (G2.out.trans f)) rfl CF.out CS.out (by simp)).mono ?_
  rintro q w3 ⟨rfl, h1, f1⟩
  have H3 := hide h1
  have G3 := hide (G2.out.trans f1)
  clear h1 f1 a16
  have HE : Hid (((([] ++ [5].map Lib.itoa) ++ ([pe, nn]).map Lib.itoa) ++ (seqN clI cl).map Lib.itoa) = (dN ⟨5, (i, j), e, cl, pe, nn, ⟨(i2, j2), st, e2⟩⟩).map Lib.itoa) := hide (by unfold dN; simp)
  have HW := H3.out
  rw [HE.out] at HW
  obtain ⟨v, hv, ho⟩ := HW.row
  obtain ⟨A, cap, rfl, hrow, hcap⟩ := OwnS.row ho
  rw [List.length_map] at hv
  have HJ := hide (joined_any A (dN ⟨5, (i, j), e, cl, pe, nn, ⟨(i2, j2), st, e2⟩⟩).length cap _ w3 hrow (List.length_map _).symm hcap (by rw [List.length_map]; exact HSZ.out) (fun p hp => by
    obtain ⟨x, hx, rfl⟩ := List.mem_map.1 hp
    have := HFT.out x hx
    have := Lib.itoa_length_le x this.1 this.2
    omega))
  clear ho hrow hcap HW
  generalize (dN ⟨5, (i, j), e, cl, pe, nn, ⟨(i2, j2), st, e2⟩⟩).length = L at hv HJ
  go_wp2_with fail
  refine HJ.out.mono ?_
  rintro q w4 ⟨rfl, hb⟩
  have HB := hide (HA.out.trans ((G3.out.below.mono (Nat.le_succ _)).trans (hb.mono (Nat.le_trans HA.out.size G3.out.size))))
  clear hb hv
  go_wp2_with fail
  go_ret
  exact ⟨rfl, HB.out⟩
set_option maxRecDepth 100000 in
set_option maxHeartbeats 3200000 in
theorem written6 (i j : Int) (e : Ev.E) (cl : List C) (pe nn i2 j2 st : Int) (e2 : Ev.E) (m : DM) (w : World) (he : Env w) (h : DL w ⟨6, (i, j), e, cl, pe, nn, ⟨(i2, j2), st, e2⟩⟩ m) (hpn : Fit [pe, nn]) (hcl : Fit (seqN clI cl)) (hcs : cl.length ≤ 1000) (hfit : Fit (dN ⟨6, (i, j), e, cl, pe, nn, ⟨(i2, j2), st, e2⟩⟩)) (hsz : (dN ⟨6, (i, j), e, cl, pe, nn, ⟨(i2, j2), st, e2⟩⟩).length ≤ 1000) :
    Calls Tryz.prog 17 #[.agg (dC ⟨6, (i, j), e, cl, pe, nn, ⟨(i2, j2), st, e2⟩⟩ m).toArray] w (Ans w (.string (str (jn (dN ⟨6, (i, j), e, cl, pe, nn, ⟨(i2, j2), st, e2⟩⟩))))) := by
  have HFT := hide hfit
  have HSZ := hide (Nat.le_trans hsz (by decide : 1000 ≤ 10000))
  clear hfit hsz
  have H0 := hide (wr0_is w ⟨6, (i, j), e, cl, pe, nn, ⟨(i2, j2), st, e2⟩⟩ m he)
  have HA := hide (wr0_below w ⟨6, (i, j), e, cl, pe, nn, ⟨(i2, j2), st, e2⟩⟩ m)
  have R0 := wr0_range w ⟨6, (i, j), e, cl, pe, nn, ⟨(i2, j2), st, e2⟩⟩ m
  have HR := hide R0
  have HLE := hide (fun w' (f : FW (w.heap.size + 1) (w.heap.size + 1) (wr0 w ⟨6, (i, j), e, cl, pe, nn, ⟨(i2, j2), st, e2⟩⟩ m) w') => h.e.keep (HA.out.trans (f.below.mono (Nat.le_succ _))))
  have HLC := hide (fun w' (f : FW (w.heap.size + 1) (w.heap.size + 1) (wr0 w ⟨6, (i, j), e, cl, pe, nn, ⟨(i2, j2), st, e2⟩⟩ m) w') => h.c.keep (HA.out.trans (f.below.mono (Nat.le_succ _))))
  have HLB := hide (fun w' (f : FW (w.heap.size + 1) (w.heap.size + 1) (wr0 w ⟨6, (i, j), e, cl, pe, nn, ⟨(i2, j2), st, e2⟩⟩ m) w') => h.b.keep (HA.out.trans (f.below.mono (Nat.le_succ _))))
  have a0 := range_cell R0 0 0 _ rfl rfl
  have PF := hide hpn
  clear hpn
  have CF := hide hcl
  have CS := hide hcs
  clear hcl hcs
  clear R0 h he HLE HLB
  go_enter Tryz.func17, Tryz.ntmps17
  go_wp2_with fail
  refine (put_new _ _ [6] 1 [] _ #[.int .i64 6] H0.out rfl rfl (by unfold Fit in64; simp) (by simp) (by simp) (N := w.heap.size + 2) (wr0_size w ⟨6, (i, j), e, cl, pe, nn, ⟨(i2, j2), st, e2⟩⟩ m)).mono ?_
  rintro q w1 ⟨rfl, h1, f1⟩
  have H1 := hide h1
  have G1 := hide f1
  have b0 := range_cell (range_below HR.out f1.below (Nat.lt_succ_self _)) 0 0 _ rfl rfl
  clear h1 f1 a0
  have a17 := range_cell (range_below HR.out G1.out.below (Nat.lt_succ_self _)) 17 17 _ rfl rfl
  have a18 := range_cell (range_below HR.out G1.out.below (Nat.lt_succ_self _)) 18 18 _ rfl rfl
  go_wp2_with fail
  refine (put_new _ _ [pe, nn] 2 ([] ++ [6].map Lib.itoa) w1 #[.int .i64 pe, .int .i64 nn] H1.out (by simp [cellsI]) rfl PF.out (by simp) (by simp) rfl).mono ?_
  rintro q w2 ⟨rfl, h1, f1⟩
  have H2 := hide h1
  have G2 := hide (G1.out.trans f1)
  clear h1 f1 b0 a17 a18
  have a16 := range_cell (range_below HR.out G2.out.below (Nat.lt_succ_self _)) 16 16 _ rfl rfl
  go_wp2_with fail
  refine (wcl_any _ _ cl m.A _ m.c (([] ++ [6].map Lib.itoa) ++ ([pe, nn]).map Lib.itoa) w2 H2.out (fun w' f => HLC.out w' (G2.out.trans f)) rfl CF.out CS.out (by simp)).mono ?_
  rintro q w3 ⟨rfl, h1, f1⟩
  have H3 := hide h1
  have G3 := hide (G2.out.trans f1)
  clear h1 f1 a16
  have HE : Hid (((([] ++ [6].map Lib.itoa) ++ ([pe, nn]).map Lib.itoa) ++ (seqN clI cl).map Lib.itoa) = (dN ⟨6, (i, j), e, cl, pe, nn, ⟨(i2, j2), st, e2⟩⟩).map Lib.itoa) := hide (by unfold dN; simp)
  have HW := H3.out
  rw [HE.out] at HW
  obtain ⟨v, hv, ho⟩ := HW.row
  obtain ⟨A, cap, rfl, hrow, hcap⟩ := OwnS.row ho
  rw [List.length_map] at hv
  have HJ := hide (joined_any A (dN ⟨6, (i, j), e, cl, pe, nn, ⟨(i2, j2), st, e2⟩⟩).length cap _ w3 hrow (List.length_map _).symm hcap (by rw [List.length_map]; exact HSZ.out) (fun p hp => by
    obtain ⟨x, hx, rfl⟩ := List.mem_map.1 hp
    have := HFT.out x hx
    have := Lib.itoa_length_le x this.1 this.2
    omega))
  clear ho hrow hcap HW
  generalize (dN ⟨6, (i, j), e, cl, pe, nn, ⟨(i2, j2), st, e2⟩⟩).length = L at hv HJ
  go_wp2_with fail
  refine HJ.out.mono ?_
  rintro q w4 ⟨rfl, hb⟩
  have HB := hide (HA.out.trans ((G3.out.below.mono (Nat.le_succ _)).trans (hb.mono (Nat.le_trans HA.out.size G3.out.size))))
  clear hb hv
  go_wp2_with fail
  go_ret
  exact ⟨rfl, HB.out⟩
set_option maxRecDepth 100000 in
set_option maxHeartbeats 3200000 in
theorem written7 (i j : Int) (e : Ev.E) (cl : List C) (pe nn i2 j2 st : Int) (e2 : Ev.E) (m : DM) (w : World) (he : Env w) (h : DL w ⟨7, (i, j), e, cl, pe, nn, ⟨(i2, j2), st, e2⟩⟩ m) (hpn : Fit [pe, nn]) (hfit : Fit (dN ⟨7, (i, j), e, cl, pe, nn, ⟨(i2, j2), st, e2⟩⟩)) (hsz : (dN ⟨7, (i, j), e, cl, pe, nn, ⟨(i2, j2), st, e2⟩⟩).length ≤ 1000) :
    Calls Tryz.prog 17 #[.agg (dC ⟨7, (i, j), e, cl, pe, nn, ⟨(i2, j2), st, e2⟩⟩ m).toArray] w (Ans w (.string (str (jn (dN ⟨7, (i, j), e, cl, pe, nn, ⟨(i2, j2), st, e2⟩⟩))))) := by
  have HFT := hide hfit
  have HSZ := hide (Nat.le_trans hsz (by decide : 1000 ≤ 10000))
  clear hfit hsz
  have H0 := hide (wr0_is w ⟨7, (i, j), e, cl, pe, nn, ⟨(i2, j2), st, e2⟩⟩ m he)
  have HA := hide (wr0_below w ⟨7, (i, j), e, cl, pe, nn, ⟨(i2, j2), st, e2⟩⟩ m)
  have R0 := wr0_range w ⟨7, (i, j), e, cl, pe, nn, ⟨(i2, j2), st, e2⟩⟩ m
  have HR := hide R0
  have HLE := hide (fun w' (f : FW (w.heap.size + 1) (w.heap.size + 1) (wr0 w ⟨7, (i, j), e, cl, pe, nn, ⟨(i2, j2), st, e2⟩⟩ m) w') => h.e.keep (HA.out.trans (f.below.mono (Nat.le_succ _))))
  have HLC := hide (fun w' (f : FW (w.heap.size + 1) (w.heap.size + 1) (wr0 w ⟨7, (i, j), e, cl, pe, nn, ⟨(i2, j2), st, e2⟩⟩ m) w') => h.c.keep (HA.out.trans (f.below.mono (Nat.le_succ _))))
  have HLB := hide (fun w' (f : FW (w.heap.size + 1) (w.heap.size + 1) (wr0 w ⟨7, (i, j), e, cl, pe, nn, ⟨(i2, j2), st, e2⟩⟩ m) w') => h.b.keep (HA.out.trans (f.below.mono (Nat.le_succ _))))
  have a0 := range_cell R0 0 0 _ rfl rfl
  have PF := hide hpn
  clear hpn
  clear R0 h he HLE HLC HLB
  go_enter Tryz.func17, Tryz.ntmps17
  go_wp2_with fail
  refine (put_new _ _ [7] 1 [] _ #[.int .i64 7] H0.out rfl rfl (by unfold Fit in64; simp) (by simp) (by simp) (N := w.heap.size + 2) (wr0_size w ⟨7, (i, j), e, cl, pe, nn, ⟨(i2, j2), st, e2⟩⟩ m)).mono ?_
  rintro q w1 ⟨rfl, h1, f1⟩
  have H1 := hide h1
  have G1 := hide f1
  have b0 := range_cell (range_below HR.out f1.below (Nat.lt_succ_self _)) 0 0 _ rfl rfl
  clear h1 f1 a0
  have a17 := range_cell (range_below HR.out G1.out.below (Nat.lt_succ_self _)) 17 17 _ rfl rfl
  have a18 := range_cell (range_below HR.out G1.out.below (Nat.lt_succ_self _)) 18 18 _ rfl rfl
  go_wp2_with fail
  refine (put_new _ _ [pe, nn] 2 ([] ++ [7].map Lib.itoa) w1 #[.int .i64 pe, .int .i64 nn] H1.out (by simp [cellsI]) rfl PF.out (by simp) (by simp) rfl).mono ?_
  rintro q w2 ⟨rfl, h1, f1⟩
  have H2 := hide h1
  have G2 := hide (G1.out.trans f1)
  clear h1 f1 b0 a17 a18
  have HE : Hid ((([] ++ [7].map Lib.itoa) ++ ([pe, nn]).map Lib.itoa) = (dN ⟨7, (i, j), e, cl, pe, nn, ⟨(i2, j2), st, e2⟩⟩).map Lib.itoa) := hide (by unfold dN; simp)
  have HW := H2.out
  rw [HE.out] at HW
  obtain ⟨v, hv, ho⟩ := HW.row
  obtain ⟨A, cap, rfl, hrow, hcap⟩ := OwnS.row ho
  rw [List.length_map] at hv
  have HJ := hide (joined_any A (dN ⟨7, (i, j), e, cl, pe, nn, ⟨(i2, j2), st, e2⟩⟩).length cap _ w2 hrow (List.length_map _).symm hcap (by rw [List.length_map]; exact HSZ.out) (fun p hp => by
    obtain ⟨x, hx, rfl⟩ := List.mem_map.1 hp
    have := HFT.out x hx
    have := Lib.itoa_length_le x this.1 this.2
    omega))
  clear ho hrow hcap HW
  generalize (dN ⟨7, (i, j), e, cl, pe, nn, ⟨(i2, j2), st, e2⟩⟩).length = L at hv HJ
  go_wp2_with fail
  refine HJ.out.mono ?_
  rintro q w3 ⟨rfl, hb⟩
  have HB := hide (HA.out.trans ((G2.out.below.mono (Nat.le_succ _)).trans (hb.mono (Nat.le_trans HA.out.size G2.out.size))))
  clear hb hv
  go_wp2_with fail
  go_ret
  exact ⟨rfl, HB.out⟩
set_option maxRecDepth 100000 in
set_option maxHeartbeats 3200000 in
theorem written8 (i j : Int) (e : Ev.E) (cl : List C) (pe nn i2 j2 st : Int) (e2 : Ev.E) (m : DM) (w : World) (he : Env w) (h : DL w ⟨8, (i, j), e, cl, pe, nn, ⟨(i2, j2), st, e2⟩⟩ m) (hpn : Fit [pe, nn]) (hbk : Fit (bkN ⟨(i2, j2), st, e2⟩)) (hbs : Slim e2) (hfit : Fit (dN ⟨8, (i, j), e, cl, pe, nn, ⟨(i2, j2), st, e2⟩⟩)) (hsz : (dN ⟨8, (i, j), e, cl, pe, nn, ⟨(i2, j2), st, e2⟩⟩).length ≤ 1000) :
    Calls Tryz.prog 17 #[.agg (dC ⟨8, (i, j), e, cl, pe, nn, ⟨(i2, j2), st, e2⟩⟩ m).toArray] w (Ans w (.string (str (jn (dN ⟨8, (i, j), e, cl, pe, nn, ⟨(i2, j2), st, e2⟩⟩))))) := by
  have HFT := hide hfit
  have HSZ := hide (Nat.le_trans hsz (by decide : 1000 ≤ 10000))
  clear hfit hsz
  have H0 := hide (wr0_is w ⟨8, (i, j), e, cl, pe, nn, ⟨(i2, j2), st, e2⟩⟩ m he)
  have HA := hide (wr0_below w ⟨8, (i, j), e, cl, pe, nn, ⟨(i2, j2), st, e2⟩⟩ m)
  have R0 := wr0_range w ⟨8, (i, j), e, cl, pe, nn, ⟨(i2, j2), st, e2⟩⟩ m
  have HR := hide R0
  have HLE := hide (fun w' (f : FW (w.heap.size + 1) (w.heap.size + 1) (wr0 w ⟨8, (i, j), e, cl, pe, nn, ⟨(i2, j2), st, e2⟩⟩ m) w') => h.e.keep (HA.out.trans (f.below.mono (Nat.le_succ _))))
  have HLC := hide (fun w' (f : FW (w.heap.size + 1) (w.heap.size + 1) (wr0 w ⟨8, (i, j), e, cl, pe, nn, ⟨(i2, j2), st, e2⟩⟩ m) w') => h.c.keep (HA.out.trans (f.below.mono (Nat.le_succ _))))
  have HLB := hide (fun w' (f : FW (w.heap.size + 1) (w.heap.size + 1) (wr0 w ⟨8, (i, j), e, cl, pe, nn, ⟨(i2, j2), st, e2⟩⟩ m) w') => h.b.keep (HA.out.trans (f.below.mono (Nat.le_succ _))))
  have a0 := range_cell R0 0 0 _ rfl rfl
  have PF := hide hpn
  clear hpn
  have BF := hide hbk
  have BS := hide hbs
  clear hbk hbs
  clear R0 h he HLE HLC
  go_enter Tryz.func17, Tryz.ntmps17
  go_wp2_with fail
  refine (put_new _ _ [8] 1 [] _ #[.int .i64 8] H0.out rfl rfl (by unfold Fit in64; simp) (by simp) (by simp) (N := w.heap.size + 2) (wr0_size w ⟨8, (i, j), e, cl, pe, nn, ⟨(i2, j2), st, e2⟩⟩ m)).mono ?_
  rintro q w1 ⟨rfl, h1, f1⟩
  have H1 := hide h1
  have G1 := hide f1
  have b0 := range_cell (range_below HR.out f1.below (Nat.lt_succ_self _)) 0 0 _ rfl rfl
  clear h1 f1 a0
  have a17 := range_cell (range_below HR.out G1.out.below (Nat.lt_succ_self _)) 17 17 _ rfl rfl
  have a18 := range_cell (range_below HR.out G1.out.below (Nat.lt_succ_self _)) 18 18 _ rfl rfl
  go_wp2_with fail
  refine (put_new _ _ [pe, nn] 2 ([] ++ [8].map Lib.itoa) w1 #[.int .i64 pe, .int .i64 nn] H1.out (by simp [cellsI]) rfl PF.out (by simp) (by simp) rfl).mono ?_
  rintro q w2 ⟨rfl, h1, f1⟩
  have H2 := hide h1
  have G2 := hide (G1.out.trans f1)
  clear h1 f1 b0 a17 a18
  have K0 := hide (dAt_of (range_below HR.out G2.out.below (Nat.lt_succ_self _))).bk
  go_wp2_with (refine load_book rfl _ rfl _ _ rfl _ K0.out rfl ?_)
  refine (wbk_c _ _ ⟨(i2, j2), st, e2⟩ m.b (([] ++ [8].map Lib.itoa) ++ ([pe, nn]).map Lib.itoa) w2 H2.out (fun w' f => HLB.out w' (G2.out.trans f)) BF.out BS.out (by simp)).mono ?_
  rintro q w3 ⟨rfl, h1, f1⟩
  have H3 := hide h1
  have G3 := hide (G2.out.trans f1)
  clear h1 f1 K0
  have HE : Hid (((([] ++ [8].map Lib.itoa) ++ ([pe, nn]).map Lib.itoa) ++ (bkN ⟨(i2, j2), st, e2⟩).map Lib.itoa) = (dN ⟨8, (i, j), e, cl, pe, nn, ⟨(i2, j2), st, e2⟩⟩).map Lib.itoa) := hide (by unfold dN; simp)
  have HW := H3.out
  rw [HE.out] at HW
  obtain ⟨v, hv, ho⟩ := HW.row
  obtain ⟨A, cap, rfl, hrow, hcap⟩ := OwnS.row ho
  rw [List.length_map] at hv
  have HJ := hide (joined_any A (dN ⟨8, (i, j), e, cl, pe, nn, ⟨(i2, j2), st, e2⟩⟩).length cap _ w3 hrow (List.length_map _).symm hcap (by rw [List.length_map]; exact HSZ.out) (fun p hp => by
    obtain ⟨x, hx, rfl⟩ := List.mem_map.1 hp
    have := HFT.out x hx
    have := Lib.itoa_length_le x this.1 this.2
    omega))
  clear ho hrow hcap HW
  generalize (dN ⟨8, (i, j), e, cl, pe, nn, ⟨(i2, j2), st, e2⟩⟩).length = L at hv HJ
  go_wp2_with fail
  refine HJ.out.mono ?_
  rintro q w4 ⟨rfl, hb⟩
  have HB := hide (HA.out.trans ((G3.out.below.mono (Nat.le_succ _)).trans (hb.mono (Nat.le_trans HA.out.size G3.out.size))))
  clear hb hv
  go_wp2_with fail
  go_ret
  exact ⟨rfl, HB.out⟩
end Go.Proofs.YtlmdceeeahnkcaaGreatDoor

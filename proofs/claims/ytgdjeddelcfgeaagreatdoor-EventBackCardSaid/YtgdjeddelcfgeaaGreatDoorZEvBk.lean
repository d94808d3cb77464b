/- EventBack walked: an event's lines are read as it, in another order too, with others between; a copy has its own slices. -/
import Derived.Test.YtgdjeddelcfgeaaGreatDoorZW15
import Derived.Test.YtgdjeddelcfgeaaGreatDoorZM3
import Derived.Test.YtgdjeddelcfgeaaGreatDoorZW16
namespace Go.Proofs.YtgdjeddelcfgeaaGreatDoor
open Go.RowKit Rul Rt Go.Sort

theorem own_first {w : World} {B n c : Nat} {A : Option Addr} {o : List Int} (h : OwnI w B (.slice A n c) o) (hne : 0 < o.length) : ∃ g, A = some ⟨g, 0, none⟩ ∧ B ≤ g ∧ (∃ z, w.cell? ⟨g, 0, none⟩ = some (.int .i64 z)) ∧ w.frozen? ⟨g, 0, none⟩ = false := by
  have h0 := h
  obtain ⟨h1, h2⟩ := h
  rcases h2 with ⟨e, e2⟩ | ⟨g, cap, cur, e, hb, hg, hnc, hcm, hcs, ht⟩
  · omega
  · injection e with e e2 e3
    subst e e2 e3
    obtain ⟨_, _, e4, hr⟩ := OwnI.row h0
    injection e4 with e4 _ _
    obtain ⟨b, off, e5, _, hc⟩ := hr (fun g => by rw [g] at hne; exact absurd hne (Nat.lt_irrefl 0))
    rw [← e4] at e5
    injection e5 with e5
    injection e5 with e5 e6 _
    have hc0 := hc 0 hne
    rw [← e5, ← e6] at hc0
    exact ⟨g, rfl, hb, ⟨_, hc0⟩, by simp [World.frozen?, hg]⟩
theorem room_first {w : World} {A : Option Addr} {o : List Int} (h : RowI w A o) (hne : 0 < o.length) (hr : ∀ z ∈ o, Ev.roomB z = true) : ∃ g off z, A = some ⟨g, off, none⟩ ∧ g < w.heap.size ∧ w.cell? ⟨g, off, none⟩ = some (.int .i64 z) ∧ z ≠ 77 := by
  obtain ⟨b, off, e, hb, hc⟩ := h (fun g => by rw [g] at hne; exact absurd hne (Nat.lt_irrefl 0))
  have hz := hr o[0] (List.getElem_mem _)
  rw [Ev.roomB, btw_iff] at hz
  exact ⟨b, off, o[0], e, hb, hc 0 hne, by omega⟩
theorem RowS.mid {w : World} {A : Option Addr} {L : List Tx} {e : Ev.E} (h : RowS w A L) (hL : Ev.linesE unU e = L) (he : Ev.Is e) : ∃ b o, A = some ⟨b, o, none⟩ ∧ RowS w (some ⟨b, o + 1, none⟩) (Ev.midL unU e) := by
  have h6 := Ev.six_lines unU e he
  have hm := Ev.mid_len unU e he
  obtain ⟨b, o, hA, hb, hc⟩ := h (fun g => by rw [hL, g] at h6; simp at h6)
  refine ⟨b, o, hA, fun _ => ⟨b, o + 1, rfl, hb, fun i hi => ?_⟩⟩
  subst hL
  rw [Ev.mid_get unU e he i hi, Nat.add_assoc, Nat.add_comm 1 i]
  exact hc (i + 1) (by omega)
/-- the other line, of whatever length. -/
theorem fine_other (mo : Tx) : Fine (Ev.bkO mo) :=
  ⟨fun w _ => by
    have h := split_long (Ev.bkO mo) Ev.nO mo w rfl (by decide) (by decide) (by decide) (by decide)
    have e : Li.capE Ev.nO = Ev.nO := by decide
    rw [e] at h
    rw [Ev.other_line]
    exact h,
  fun n v h hk => by
    rw [Ev.other_line] at h
    injection h with h
    injection h with h1 _
    subst h1
    exact absurd hk (by decide)⟩
theorem fine_back (e : Ev.E) (he : Ev.Is e) (k : Nat) (mo : Tx) : ∀ p ∈ Ev.bkL unU e k mo, Fine p := by
  have hm : ∀ p ∈ Ev.midL unU e, Fine p := fun p hp => fine_short (lines_small e he p (by
    rw [Ev.lines_flds unU e ((Ev.isE_iff e).2 he)]
    exact List.mem_cons_of_mem _ (List.mem_append_left _ hp)))
  intro p hp
  simp only [Ev.bkL, List.mem_append, List.mem_cons, List.not_mem_nil, or_false] at hp
  rcases hp with ((((rfl | rfl) | hp) | hp) | rfl) | (rfl | rfl)
  · exact fine_short (by decide)
  · exact fine_other mo
  · exact hm p (List.mem_of_mem_drop hp)
  · exact hm p (List.mem_of_mem_take hp)
  · exact fine_short (by decide)
  · exact fine_short (by decide)
  · exact fine_short (by decide)
theorem bkL_len (e : Ev.E) (k : Nat) (mo : Tx) (M : Nat) (hm : (Ev.midL unU e).length = M) : (Ev.bkL unU e k mo).length = M + 5 := by
  simp only [Ev.bkL, List.length_append, List.length_cons, List.length_nil, List.length_drop, List.length_take, hm]
  omega
/-- lines that can be read, of whatever length. -/
theorem read_fine (A : Option Addr) (n c : Nat) (l : List Tx) (w : World) (hl : RowS w A l) (hn : n = l.length) (hsz : l.length ≤ 900) (hb : ∀ p ∈ l, Fine p) (he : EnvE w) (e : Ev.E) (i : Nat) (hr : Ev.readE unU l = (some e, i)) :
    Calls Tryz.prog 20 #[.slice A n c] w fun x w' => ∃ m, x = .returned (.tuple #[evV e m, .int .i64 i, .int .i64 0]) ∧ EvL w' e m ∧ Below w.heap.size w w' := by
  refine (eRead_fine A n c l w hl hn hsz hb he).mono ?_
  rintro _ w' ⟨hb, h⟩
  rw [hr] at h
  obtain ⟨m, rfl, hn⟩ := h
  exact ⟨m, rfl, hn.lies, hb⟩
theorem copy_new (e : Ev.E) (m : Mem) (w : World) (h : EvL w e m) : Calls Tryz.prog 18 #[evV e m] w fun x w' => ∃ m, x = .returned (evV e m) ∧ NewE w' w.heap.size e m ∧ Below w.heap.size w w' := eCopy_any e m w h

set_option maxRecDepth 100000 in
set_option maxHeartbeats 8000000 in
theorem back_yes (u t : Tx) (s l : Int) (o : List Int) (fr ev ct un : Int) (ds : List Wd) (ms ys x : List Int) (m : Mem) (y : Int) (Mo : ByteArray) (w : World) (y1 : 0 ≤ y) (y2 : y ≤ 255) (hMo : Mo.size ≤ 140737488355328) (h : EvL w ⟨u, t, s, l, o, ⟨fr, ev, ct, un, ds, ms, ys⟩, x⟩ m) (he : EnvE w) (hfew : fewEB ds.length ms.length ys.length (str u).size (str t).size o.length x.length = true) (his : Ev.isE ⟨u, t, s, l, o, ⟨fr, ev, ct, un, ds, ms, ys⟩, x⟩ = true) :
    Calls Tryz.prog 5 #[.agg #[.string (str u), .string (str t), .int .i64 s, .int .i64 l, .slice m.O o.length m.oc, .int .i64 fr, .int .i64 ev, .int .i64 ct, .int .i64 un, .slice m.D ds.length m.dc, .slice m.M ms.length m.mc, .slice m.Y ys.length m.yc, .slice m.X x.length m.xc], .int .u8 y, .string Mo] w (Ans w (.bool true)) := by
  have HE := hide he
  have HFEW := hide hfew
  have HBX := hide (more (start w) (.cells #[.string (str u), .string (str t), .int .i64 s, .int .i64 l, .slice m.O o.length m.oc, .int .i64 fr, .int .i64 ev, .int .i64 ct, .int .i64 un, .slice m.D ds.length m.dc, .slice m.M ms.length m.mc, .slice m.Y ys.length m.yc, .slice m.X x.length m.xc] 27))
  have hk := blk_new w #[.string (str u), .string (str t), .int .i64 s, .int .i64 l, .slice m.O o.length m.oc, .int .i64 fr, .int .i64 ev, .int .i64 ct, .int .i64 un, .slice m.D ds.length m.dc, .slice m.M ms.length m.mc, .slice m.Y ys.length m.yc, .slice m.X x.length m.xc] 27
  have s0 := hk.cell 0 (by simp)
  have s1 := hk.cell 1 (by simp)
  have s2 := hk.cell 2 (by simp)
  have s3 := hk.cell 3 (by simp)
  have s4 := hk.cell 4 (by simp)
  have s5 := hk.cell 5 (by simp)
  have s6 := hk.cell 6 (by simp)
  have s7 := hk.cell 7 (by simp)
  have s8 := hk.cell 8 (by simp)
  have s9 := hk.cell 9 (by simp)
  have s10 := hk.cell 10 (by simp)
  have s11 := hk.cell 11 (by simp)
  have s12 := hk.cell 12 (by simp)
  simp only [List.getElem_cons_zero, List.getElem_cons_succ] at s0 s1 s2 s3 s4 s5 s6 s7 s8 s9 s10 s11 s12
  have HL := hide (h.keep HBX.out)
  have HIS := hide his
  have HI := hide ((Ev.isE_iff _).1 his)
  clear h he his hfew hk
  go_enter Tryz.func5, Tryz.ntmps5
  go_wp2_with fail
  refine (known_any _ (HE.out.keep HBX.out)).mono ?_
  rintro e w1 ⟨rfl, hb1⟩
  replace HBX := hide (andthen HBX.out hb1)
  replace HL := hide (HL.out.keep hb1)
  replace s0 := cell_keep hb1 s0
  replace s1 := cell_keep hb1 s1
  replace s2 := cell_keep hb1 s2
  replace s3 := cell_keep hb1 s3
  replace s4 := cell_keep hb1 s4
  replace s5 := cell_keep hb1 s5
  replace s6 := cell_keep hb1 s6
  replace s7 := cell_keep hb1 s7
  replace s8 := cell_keep hb1 s8
  replace s9 := cell_keep hb1 s9
  replace s10 := cell_keep hb1 s10
  replace s11 := cell_keep hb1 s11
  replace s12 := cell_keep hb1 s12
  clear hb1
  go_wp2_with fail
  refine (ans_is (fewE_any (str u) (str t) s l m.O o.length m.oc fr ev ct un m.D m.M m.Y m.X ds.length m.dc ms.length m.mc ys.length m.yc x.length m.xc _) HFEW.out).mono ?_
  rintro e w2 ⟨rfl, hb1⟩
  replace HBX := hide (andthen HBX.out hb1)
  replace HL := hide (HL.out.keep hb1)
  replace s0 := cell_keep hb1 s0
  replace s1 := cell_keep hb1 s1
  replace s2 := cell_keep hb1 s2
  replace s3 := cell_keep hb1 s3
  replace s4 := cell_keep hb1 s4
  replace s5 := cell_keep hb1 s5
  replace s6 := cell_keep hb1 s6
  replace s7 := cell_keep hb1 s7
  replace s8 := cell_keep hb1 s8
  replace s9 := cell_keep hb1 s9
  replace s10 := cell_keep hb1 s10
  replace s11 := cell_keep hb1 s11
  replace s12 := cell_keep hb1 s12
  clear hb1
  go_wp2_with fail
  refine (eis_at ⟨u, t, s, l, o, ⟨fr, ev, ct, un, ds, ms, ys⟩, x⟩ m true _ HL.out HIS.out).mono ?_
  rintro e w3 ⟨rfl, hb1⟩
  replace HBX := hide (andthen HBX.out hb1)
  replace HL := hide (HL.out.keep hb1)
  replace s0 := cell_keep hb1 s0
  replace s1 := cell_keep hb1 s1
  replace s2 := cell_keep hb1 s2
  replace s3 := cell_keep hb1 s3
  replace s4 := cell_keep hb1 s4
  replace s5 := cell_keep hb1 s5
  replace s6 := cell_keep hb1 s6
  replace s7 := cell_keep hb1 s7
  replace s8 := cell_keep hb1 s8
  replace s9 := cell_keep hb1 s9
  replace s10 := cell_keep hb1 s10
  replace s11 := cell_keep hb1 s11
  replace s12 := cell_keep hb1 s12
  clear hb1
  go_wp2_with fail
  obtain ⟨L, hL⟩ : ∃ L, Ev.linesE unU ⟨u, t, s, l, o, ⟨fr, ev, ct, un, ds, ms, ys⟩, x⟩ = L := ⟨_, rfl⟩
  have HLQ := hide hL
  have H6 := hide (Ev.six_lines unU _ HI.out)
  have HSM := hide (lines_small _ HI.out)
  have HFR := hide (Ev.front_read unU unU_good _ HI.out)
  have HML := hide (Ev.mid_len unU _ HI.out)
  have HBK := hide (fun k mo => Ev.back_read unU unU_good _ HI.out k mo)
  rw [hL] at H6 HSM HFR HML HBK
  refine (lines_some ⟨u, t, s, l, o, ⟨fr, ev, ct, un, ds, ms, ys⟩, x⟩ m _ HL.out (HE.out.keep HBX.out) L hL).mono ?_
  rintro e w4 ⟨AL, capL, rfl, hcap, hrow, hb1⟩
  replace HBX := hide (andthen HBX.out hb1)
  replace HL := hide (HL.out.keep hb1)
  have HR := hide hrow
  replace s0 := cell_keep hb1 s0
  replace s1 := cell_keep hb1 s1
  replace s2 := cell_keep hb1 s2
  replace s3 := cell_keep hb1 s3
  replace s4 := cell_keep hb1 s4
  replace s5 := cell_keep hb1 s5
  replace s6 := cell_keep hb1 s6
  replace s7 := cell_keep hb1 s7
  replace s8 := cell_keep hb1 s8
  replace s9 := cell_keep hb1 s9
  replace s10 := cell_keep hb1 s10
  replace s11 := cell_keep hb1 s11
  replace s12 := cell_keep hb1 s12
  clear hb1 hrow hL
  obtain ⟨M, hN⟩ : ∃ M, L.length = M + 2 := ⟨L.length - 2, by have := H6.out.1; omega⟩
  have HN := hide hN
  have n6 : 4 ≤ M := by have := H6.out.1; omega
  have n9 : M ≤ 7 := by have := H6.out.2; omega
  rw [hN] at HFR HML HBK hcap ⊢
  have HM : Hid ((Ev.midL unU ⟨u, t, s, l, o, ⟨fr, ev, ct, un, ds, ms, ys⟩, x⟩).length = M) := hide HML.out
  clear hN H6 HML
  go_wp2_with fail
  refine (read_yes AL _ capL L _ HR.out HN.out.symm (by rw [HN.out]; omega) HSM.out (HE.out.keep HBX.out) ⟨u, t, s, l, o, ⟨fr, ev, ct, un, ds, ms, ys⟩, x⟩ _ HFR.out).mono ?_
  rintro _ w5 ⟨m5, rfl, hl5, hb5⟩
  have hk5 := blk_new w5 #[.string (str u), .string (str t), .int .i64 s, .int .i64 l, .slice m5.O o.length m5.oc, .int .i64 fr, .int .i64 ev, .int .i64 ct, .int .i64 un, .slice m5.D ds.length m5.dc, .slice m5.M ms.length m5.mc, .slice m5.Y ys.length m5.yc, .slice m5.X x.length m5.xc] 27
  have hm5 := more (start w5) (.cells #[.string (str u), .string (str t), .int .i64 s, .int .i64 l, .slice m5.O o.length m5.oc, .int .i64 fr, .int .i64 ev, .int .i64 ct, .int .i64 un, .slice m5.D ds.length m5.dc, .slice m5.M ms.length m5.mc, .slice m5.Y ys.length m5.yc, .slice m5.X x.length m5.xc] 27)
  replace HBX := hide (andthen (andthen HBX.out hb5) hm5)
  replace HL := hide ((HL.out.keep hb5).keep hm5)
  have HL5 := hide (hl5.keep hm5)
  replace HR := hide ((HR.out.keep hb5).keep hm5)
  replace s0 := cell_keep hm5 (cell_keep hb5 s0)
  replace s1 := cell_keep hm5 (cell_keep hb5 s1)
  replace s2 := cell_keep hm5 (cell_keep hb5 s2)
  replace s3 := cell_keep hm5 (cell_keep hb5 s3)
  replace s4 := cell_keep hm5 (cell_keep hb5 s4)
  replace s5 := cell_keep hm5 (cell_keep hb5 s5)
  replace s6 := cell_keep hm5 (cell_keep hb5 s6)
  replace s7 := cell_keep hm5 (cell_keep hb5 s7)
  replace s8 := cell_keep hm5 (cell_keep hb5 s8)
  replace s9 := cell_keep hm5 (cell_keep hb5 s9)
  replace s10 := cell_keep hm5 (cell_keep hb5 s10)
  replace s11 := cell_keep hm5 (cell_keep hb5 s11)
  replace s12 := cell_keep hm5 (cell_keep hb5 s12)
  have q0 := hk5.cell 0 (by simp)
  have q1 := hk5.cell 1 (by simp)
  have q2 := hk5.cell 2 (by simp)
  have q3 := hk5.cell 3 (by simp)
  have q4 := hk5.cell 4 (by simp)
  have q5 := hk5.cell 5 (by simp)
  have q6 := hk5.cell 6 (by simp)
  have q7 := hk5.cell 7 (by simp)
  have q8 := hk5.cell 8 (by simp)
  have q9 := hk5.cell 9 (by simp)
  have q10 := hk5.cell 10 (by simp)
  have q11 := hk5.cell 11 (by simp)
  have q12 := hk5.cell 12 (by simp)
  simp only [List.getElem_cons_zero, List.getElem_cons_succ] at q0 q1 q2 q3 q4 q5 q6 q7 q8 q9 q10 q11 q12
  clear hb5 hk5 hm5 hl5
  have n6i : ¬ (((M + 2 : Nat) : Int) < 6) := by omega
  have n6j : ¬ ((M : Int) + 2 < 6) := by omega
  go_wp2_with fail
  refine (esame_at ⟨u, t, s, l, o, ⟨fr, ev, ct, un, ds, ms, ys⟩, x⟩ ⟨u, t, s, l, o, ⟨fr, ev, ct, un, ds, ms, ys⟩, x⟩ m5 m true _ HL5.out HL.out (Ev.sameE_self _)).mono ?_
  rintro _ w6 ⟨rfl, hb6⟩
  replace HBX := hide (andthen HBX.out hb6)
  replace HL := hide (HL.out.keep hb6)
  replace HR := hide (HR.out.keep hb6)
  replace s0 := cell_keep hb6 s0
  replace s1 := cell_keep hb6 s1
  replace s2 := cell_keep hb6 s2
  replace s3 := cell_keep hb6 s3
  replace s4 := cell_keep hb6 s4
  replace s5 := cell_keep hb6 s5
  replace s6 := cell_keep hb6 s6
  replace s7 := cell_keep hb6 s7
  replace s8 := cell_keep hb6 s8
  replace s9 := cell_keep hb6 s9
  replace s10 := cell_keep hb6 s10
  replace s11 := cell_keep hb6 s11
  replace s12 := cell_keep hb6 s12
  clear hb6 HL5 q0 q1 q2 q3 q4 q5 q6 q7 q8 q9 q10 q11 q12
  obtain ⟨b9, o9, rfl, hmid⟩ := HR.out.mid HLQ.out HI.out
  have HMR := hide hmid
  obtain ⟨k, hk, hk2⟩ : ∃ k : Nat, y % (M : Int) = (k : Int) ∧ k < M := by
    have a1 := Int.emod_nonneg y (show (M : Int) ≠ 0 by omega)
    have a2 := Int.emod_lt_of_pos y (show (0 : Int) < (M : Int) by omega)
    exact ⟨(y % (M : Int)).toNat, by omega, by omega⟩
  have hkt : y.tmod (M : Int) = (k : Int) := by rw [Int.tmod_eq_emod_of_nonneg y1]; exact hk
  have n2e : ((M + 2 : Nat) : Int) - 1 = (M : Int) + 1 := by omega
  have n2i : (M : Int) ≠ 0 := by omega
  have c1 : (0 : Int) ≤ (M : Int) + 1 := by omega
  have c2 : (1 : Int) ≤ (M : Int) + 1 := by omega
  have c3 : (M : Int) + 1 ≤ (capL : Int) := by omega
  have c4 : (0 : Int) ≤ (k : Int) := by omega
  have c5 : (k : Int) ≤ (M : Int) := by omega
  have c6 : (k : Int) ≤ (capL : Int) - 1 := by omega
  have c7 : M ≤ capL - 1 := by omega
  have c8 : (M : Int) ≤ ((capL - 1 : Nat) : Int) := by omega
  have c9 : (k : Int) ≤ ((capL - 1 : Nat) : Int) := by omega
  have yw : IntKind.i64.wrap y = y := IntWalk.i64_in _ (by omega)
  clear hmid HR hcap
  have HZ : Hid ((⟨#[88, 45, 79, 84, 72, 69, 82, 58]⟩ : ByteArray) ++ Mo = str (Ev.bkO Mo.data.toList)) := hide (by rw [Ev.bkO, ← str_app, data_str]; rfl)
  have zs : ((⟨#[88, 45, 79, 84, 72, 69, 82, 58]⟩ : ByteArray).size : Int) + (Mo.size : Int) ≤ 9223372036854775807 := by have : (⟨#[88, 45, 79, 84, 72, 69, 82, 58]⟩ : ByteArray).size = 8 := rfl; omega
  have e1c : ¬ capL = 1 := by omega
  have e2c : ¬ (capL - 1 = k) := by omega
  obtain ⟨mo, hmo⟩ : ∃ mo, Mo.data.toList = mo := ⟨_, rfl⟩
  rw [hmo] at HZ
  have HBM := hide (HBK.out k mo)
  have HFB := hide (fine_back _ HI.out k mo)
  obtain ⟨ML, hML⟩ : ∃ ML, Ev.midL unU ⟨u, t, s, l, o, ⟨fr, ev, ct, un, ds, ms, ys⟩, x⟩ = ML := ⟨_, rfl⟩
  have HEB : Hid (Ev.bkL unU ⟨u, t, s, l, o, ⟨fr, ev, ct, un, ds, ms, ys⟩, x⟩ k mo = [Ev.bkA, Ev.bkO mo] ++ ML.drop k ++ ML.take k ++ [Ev.bkC] ++ [Ev.bkE, Ev.bkZ]) := hide (by rw [← hML]; rfl)
  have HBL := hide (bkL_len ⟨u, t, s, l, o, ⟨fr, ev, ct, un, ds, ms, ys⟩, x⟩ k mo M HM.out)
  rw [HEB.out] at HBM HFB HBL
  rw [hML] at HMR HM
  have HZ9 := hide (Nat.le_refl w6.heap.size)
  have hb7 := more (start w6) (.cells #[.string (str Ev.bkA), .string (str (Ev.bkO mo))] 9)
  have HT1 := hide (RowS.keep (rowS_drop HMR.out k) hb7)
  have HT2 := hide (rowS_take HMR.out k)
  have HLI : Hid (OwnS (w6.alloc (.cells #[.string (str Ev.bkA), .string (str (Ev.bkO mo))] 9)) w6.heap.size (.slice (some ⟨w6.heap.size, 0, none⟩) 2 2) [Ev.bkA, Ev.bkO mo]) := hide (World.ownsRow_lit w6 #[.string (str Ev.bkA), .string (str (Ev.bkO mo))] 2 (Nat.le_refl _) (by unfold maxLen; omega) rfl)
  have HM1 : Hid (M - k = (ML.drop k).length) := hide (by rw [List.length_drop, HM.out])
  have HM2 : Hid (k = (ML.take k).length) := hide (by rw [List.length_take, HM.out]; omega)
  have hmlm := HM.out
  have HB7 := hide hb7
  clear hb7 hML hmo
  go_wp2_with (first | (at_builtin; refine wp_rowS (l := [Ev.bkA, Ev.bkO mo] ++ ML.drop k ++ ML.take k ++ [Ev.bkC]) (k := [Ev.bkE, Ev.bkZ]) rfl _ _ rfl rfl rfl rfl (rowS_lit w10 9 [Ev.bkE, Ev.bkZ]) (hown10.keep (more (start w10) _)) (Nat.le_trans hz10 (more (start w10) _).size) (by simp; omega) (by simp) ?_; intro v11 w11 hown11 hb11; obtain ⟨A11, cap11, hv11, hr11, _⟩ := OwnS.row hown11; rw [HBL.out] at hv11; subst hv11; have HR11 := hide hr11; have HB11 := hide ((hb8.trans (hb9.trans (((Below.refl w6.heap.size w9).alloc hz9 _).trans hb10))).trans (((Below.refl w6.heap.size w10).alloc hz10 _).trans hb11))) | (at_builtin; refine wp_rowS (l := [Ev.bkA, Ev.bkO mo] ++ ML.drop k ++ ML.take k) (k := [Ev.bkC]) rfl _ _ rfl rfl rfl rfl (rowS_lit w9 9 [Ev.bkC]) (hown9.keep (more (start w9) _)) (Nat.le_trans hz9 (more (start w9) _).size) (by simp; omega) (by simp) ?_; intro v10 w10 hown10 hb10; have hz10 : w6.heap.size ≤ w10.heap.size := Nat.le_trans (Nat.le_trans hz9 (more (start w9) _).size) hb10.size) | (at_builtin; refine wp_rowS (l := [Ev.bkA, Ev.bkO mo] ++ ML.drop k) (k := ML.take k) (A := ⟨b9, o9 + 1, none⟩) (m := k) (c := capL - 1) rfl _ _ rfl rfl rfl HM2.out (HT2.out.keep hb8) hown8 hz8 (by simp; omega) (by simp; omega) ?_; intro v9 w9 hown9 hb9; have hz9 := Nat.le_trans hz8 hb9.size) | (at_builtin; rw [HZ.out]; refine wp_rowS (l := [Ev.bkA, Ev.bkO mo]) (k := ML.drop k) (A := ⟨b9, o9 + 1 + k, none⟩) (m := M - k) (c := capL - 1 - k) rfl _ _ rfl rfl rfl HM1.out HT1.out HLI.out (by have := HB7.out.size; exact this) (by simp) (by simp; omega) ?_; intro v8 w8 hown8 hb8'; have hb8 := ((Below.refl w6.heap.size w6).alloc (Nat.le_refl _) _).trans hb8'; have hz8 : w6.heap.size ≤ w8.heap.size := hb8.size))
  replace HBX := hide (andthen HBX.out HB11.out)
  replace HL := hide (HL.out.keep HB11.out)
  replace s0 := cell_keep HB11.out s0
  replace s1 := cell_keep HB11.out s1
  replace s2 := cell_keep HB11.out s2
  replace s3 := cell_keep HB11.out s3
  replace s4 := cell_keep HB11.out s4
  replace s5 := cell_keep HB11.out s5
  replace s6 := cell_keep HB11.out s6
  replace s7 := cell_keep HB11.out s7
  replace s8 := cell_keep HB11.out s8
  replace s9 := cell_keep HB11.out s9
  replace s10 := cell_keep HB11.out s10
  replace s11 := cell_keep HB11.out s11
  replace s12 := cell_keep HB11.out s12
  refine (read_fine A11 _ cap11 _ _ HR11.out HBL.out.symm (by rw [HBL.out]; omega) HFB.out (HE.out.keep HBX.out) ⟨u, t, s, l, o, ⟨fr, ev, ct, un, ds, ms, ys⟩, x⟩ _ HBM.out).mono ?_
  rintro _ w12 ⟨mb, rfl, hlb, hb12⟩
  have hkb := blk_new w12 #[.string (str u), .string (str t), .int .i64 s, .int .i64 l, .slice mb.O o.length mb.oc, .int .i64 fr, .int .i64 ev, .int .i64 ct, .int .i64 un, .slice mb.D ds.length mb.dc, .slice mb.M ms.length mb.mc, .slice mb.Y ys.length mb.yc, .slice mb.X x.length mb.xc] 27
  have hmb := more (start w12) (.cells #[.string (str u), .string (str t), .int .i64 s, .int .i64 l, .slice mb.O o.length mb.oc, .int .i64 fr, .int .i64 ev, .int .i64 ct, .int .i64 un, .slice mb.D ds.length mb.dc, .slice mb.M ms.length mb.mc, .slice mb.Y ys.length mb.yc, .slice mb.X x.length mb.xc] 27)
  have hs13 : (w12.alloc (.cells #[.string (str u), .string (str t), .int .i64 s, .int .i64 l, .slice mb.O o.length mb.oc, .int .i64 fr, .int .i64 ev, .int .i64 ct, .int .i64 un, .slice mb.D ds.length mb.dc, .slice mb.M ms.length mb.mc, .slice mb.Y ys.length mb.yc, .slice mb.X x.length mb.xc] 27)).heap.size = w12.heap.size + 1 := by rw [World.size_alloc]
  replace HBX := hide (andthen (andthen HBX.out hb12) hmb)
  replace HL := hide ((HL.out.keep hb12).keep hmb)
  have HLB := hide (hlb.keep hmb)
  have HKB := hide hkb
  replace s0 := cell_keep hmb (cell_keep hb12 s0)
  replace s1 := cell_keep hmb (cell_keep hb12 s1)
  replace s2 := cell_keep hmb (cell_keep hb12 s2)
  replace s3 := cell_keep hmb (cell_keep hb12 s3)
  replace s4 := cell_keep hmb (cell_keep hb12 s4)
  replace s5 := cell_keep hmb (cell_keep hb12 s5)
  replace s6 := cell_keep hmb (cell_keep hb12 s6)
  replace s7 := cell_keep hmb (cell_keep hb12 s7)
  replace s8 := cell_keep hmb (cell_keep hb12 s8)
  replace s9 := cell_keep hmb (cell_keep hb12 s9)
  replace s10 := cell_keep hmb (cell_keep hb12 s10)
  replace s11 := cell_keep hmb (cell_keep hb12 s11)
  replace s12 := cell_keep hmb (cell_keep hb12 s12)
  have hko := blk_new (w12.alloc (.cells #[.string (str u), .string (str t), .int .i64 s, .int .i64 l, .slice mb.O o.length mb.oc, .int .i64 fr, .int .i64 ev, .int .i64 ct, .int .i64 un, .slice mb.D ds.length mb.dc, .slice mb.M ms.length mb.mc, .slice mb.Y ys.length mb.yc, .slice mb.X x.length mb.xc] 27)) #[.string (str u), .string (str t), .int .i64 s, .int .i64 l, .slice m.O o.length m.oc, .int .i64 fr, .int .i64 ev, .int .i64 ct, .int .i64 un, .slice m.D ds.length m.dc, .slice m.M ms.length m.mc, .slice m.Y ys.length m.yc, .slice m.X x.length m.xc] 27
  rw [hs13] at hko
  have hmo := more (start (w12.alloc (.cells #[.string (str u), .string (str t), .int .i64 s, .int .i64 l, .slice mb.O o.length mb.oc, .int .i64 fr, .int .i64 ev, .int .i64 ct, .int .i64 un, .slice mb.D ds.length mb.dc, .slice mb.M ms.length mb.mc, .slice mb.Y ys.length mb.yc, .slice mb.X x.length mb.xc] 27))) (.cells #[.string (str u), .string (str t), .int .i64 s, .int .i64 l, .slice m.O o.length m.oc, .int .i64 fr, .int .i64 ev, .int .i64 ct, .int .i64 un, .slice m.D ds.length m.dc, .slice m.M ms.length m.mc, .slice m.Y ys.length m.yc, .slice m.X x.length m.xc] 27)
  have HKO := hide hko
  have HMO := hide hmo
  have HY := hide (HL.out.keep hmo).o
  have hol : o.length ≤ 1000 := HL.out.ol
  have t0 := cell_keep hmo s0
  have t1 := cell_keep hmo s1
  have t2 := cell_keep hmo s2
  have t3 := cell_keep hmo s3
  have t4 := cell_keep hmo s4
  have t5 := cell_keep hmo s5
  have t6 := cell_keep hmo s6
  have t7 := cell_keep hmo s7
  have t8 := cell_keep hmo s8
  have t9 := cell_keep hmo s9
  have t10 := cell_keep hmo s10
  have t11 := cell_keep hmo s11
  have t12 := cell_keep hmo s12
  have c0 := hko.cell 0 (by simp)
  have c1 := hko.cell 1 (by simp)
  have c2 := hko.cell 2 (by simp)
  have c3 := hko.cell 3 (by simp)
  have c4 := hko.cell 4 (by simp)
  have c5 := hko.cell 5 (by simp)
  have c6 := hko.cell 6 (by simp)
  have c7 := hko.cell 7 (by simp)
  have c8 := hko.cell 8 (by simp)
  have c9 := hko.cell 9 (by simp)
  have c10 := hko.cell 10 (by simp)
  have c11 := hko.cell 11 (by simp)
  have c12 := hko.cell 12 (by simp)
  simp only [List.getElem_cons_zero, List.getElem_cons_succ] at c0 c1 c2 c3 c4 c5 c6 c7 c8 c9 c10 c11 c12
  have hlt1 : w.heap.size < w12.heap.size + 1 := by rw [← hs13]; exact block_lt_of_cell s0
  have ho1 : 0 < o.length := by have := ((Ev.roomsB_iff o).1 HI.out.rooms).1; omega
  have ho2 : ((o.length : Int) == 0) = false := by rw [beq_eq_false_iff_ne]; omega
  have ho3 : (0 : Int) < (o.length : Int) := by omega
  have HS13 := hide hs13
  clear hkb hmb hb12 hlb hs13 hko hmo HR11 HBM HFB HBL HB11
  go_upto_region 15 with fail
  generalize (w12.alloc (.cells #[.string (str u), .string (str t), .int .i64 s, .int .i64 l, .slice mb.O o.length mb.oc, .int .i64 fr, .int .i64 ev, .int .i64 ct, .int .i64 un, .slice mb.D ds.length mb.dc, .slice mb.M ms.length mb.mc, .slice mb.Y ys.length mb.yc, .slice mb.X x.length mb.xc] 27)).alloc (.cells #[.string (str u), .string (str t), .int .i64 s, .int .i64 l, .slice m.O o.length m.oc, .int .i64 fr, .int .i64 ev, .int .i64 ct, .int .i64 un, .slice m.D ds.length m.dc, .slice m.M ms.length m.mc, .slice m.Y ys.length m.yc, .slice m.X x.length m.xc] 27) = W14 at *
  generalize w12.alloc (.cells #[.string (str u), .string (str t), .int .i64 s, .int .i64 l, .slice mb.O o.length mb.oc, .int .i64 fr, .int .i64 ev, .int .i64 ct, .int .i64 un, .slice mb.D ds.length mb.dc, .slice mb.M ms.length mb.mc, .slice mb.Y ys.length mb.yc, .slice mb.X x.length mb.xc] 27) = W13 at *
  go_wp2_with (at_builtin; refine wp_copyI (k := o) rfl _ _ rfl rfl rfl rfl HY.out (by omega) ?_; intro v15 w15 hown15 hb15; obtain ⟨A15, cc15, rfl, _⟩ := OwnI.row hown15; have HQ3 := hide (HKO.out.keep hb15); have k0 := HQ3.out.cell 0 (by simp); have k1 := HQ3.out.cell 1 (by simp); have k2 := HQ3.out.cell 2 (by simp); have k3 := HQ3.out.cell 3 (by simp); have k4 := HQ3.out.cell 4 (by simp); have k5 := HQ3.out.cell 5 (by simp); have k6 := HQ3.out.cell 6 (by simp); have k7 := HQ3.out.cell 7 (by simp); have k8 := HQ3.out.cell 8 (by simp); have k9 := HQ3.out.cell 9 (by simp); have k10 := HQ3.out.cell 10 (by simp); have k11 := HQ3.out.cell 11 (by simp); have k12 := HQ3.out.cell 12 (by simp); simp only [List.getElem_cons_zero, List.getElem_cons_succ] at k0 k1 k2 k3 k4 k5 k6 k7 k8 k9 k10 k11 k12; have kf := HQ3.out.free 4; have HOW := hide hown15; have HB15 := hide hb15; clear hown15 hb15)
  have hsb : w12.heap.size + 1 < W14.heap.size := HKO.out.lt
  have HOW2 := hide (ownsRow_setCell_below HOW.out (a := ⟨w12.heap.size + 1, 4, none⟩) hsb (.slice A15 o.length cc15))
  obtain ⟨A3, c3, hv3, hrow3⟩ := OwnI.row HOW2.out
  injection hv3 with e1 _ e3
  subst e1 e3
  have HR3 := hide hrow3
  have HBZ : Hid (Below W13.heap.size W13 (w15.setCell ⟨w12.heap.size + 1, 4, none⟩ (.slice A15 o.length cc15))) := hide (Below.setCell (HMO.out.trans (HB15.out.mono HMO.out.size)) (p := ⟨w12.heap.size + 1, 4, none⟩) (by rw [HS13.out]; exact Nat.le_refl _) _)
  have HK2 : Hid (BlkAt (w15.setCell ⟨w12.heap.size + 1, 4, none⟩ (.slice A15 o.length cc15)) (w12.heap.size + 1) [.string (str u), .string (str t), .int .i64 s, .int .i64 l, .slice A15 o.length cc15, .int .i64 fr, .int .i64 ev, .int .i64 ct, .int .i64 un, .slice m.D ds.length m.dc, .slice m.M ms.length m.mc, .slice m.Y ys.length m.yc, .slice m.X x.length m.xc]) := hide (HQ3.out.set 4 _ (by simp))
  clear HQ3 HKO HOW HOW2 HMO HB15 HY hrow3 kf k0 c0 t0 k1 c1 t1 k2 c2 t2 k3 c3 t3 k4 c4 t4 k5 c5 t5 k6 c6 t6 k7 c7 t7 k8 c8 t8 k9 c9 t9 k10 c10 t10 k11 c11 t11 k12 c12 t12
  generalize w15.setCell ⟨w12.heap.size + 1, 4, none⟩ (.slice A15 o.length cc15) = Z at *
  replace HL := hide (HL.out.keep HBZ.out)
  replace HKB := hide (HKB.out.keep HBZ.out)
  replace HLB := hide (HLB.out.keep HBZ.out)
  replace HBX := hide (andthen HBX.out HBZ.out)
  replace s0 := cell_keep HBZ.out s0
  replace s1 := cell_keep HBZ.out s1
  replace s2 := cell_keep HBZ.out s2
  replace s3 := cell_keep HBZ.out s3
  replace s4 := cell_keep HBZ.out s4
  replace s5 := cell_keep HBZ.out s5
  replace s6 := cell_keep HBZ.out s6
  replace s7 := cell_keep HBZ.out s7
  replace s8 := cell_keep HBZ.out s8
  replace s9 := cell_keep HBZ.out s9
  replace s10 := cell_keep HBZ.out s10
  replace s11 := cell_keep HBZ.out s11
  replace s12 := cell_keep HBZ.out s12
  have HLO : Hid (EvL Z ⟨u, t, s, l, o, ⟨fr, ev, ct, un, ds, ms, ys⟩, x⟩ { m with O := A15, oc := cc15 }) := hide ⟨HR3.out, HL.out.ol, HL.out.r, HL.out.x, HL.out.xl, HL.out.ul, HL.out.tl⟩
  refine (copy_new ⟨u, t, s, l, o, ⟨fr, ev, ct, un, ds, ms, ys⟩, x⟩ { m with O := A15, oc := cc15 } _ HLO.out).mono ?_
  rintro _ w16 ⟨⟨OC, occ, DC, dcc, MC, mcc, YC, ycc, XC, xcc⟩, rfl, hn16, hb16⟩
  obtain ⟨g9, hA9, hgB, ⟨z9, hz9⟩, hfz⟩ := own_first hn16.o ho1
  have hA9' : OC = some ⟨g9, 0, none⟩ := hA9
  subst hA9'
  obtain ⟨g15, off15, z15, hA15, hg15, hc15, hne15⟩ := room_first HR3.out ho1 ((Ev.roomsB_iff o).1 HI.out.rooms).2.1
  subst hA15
  have hmc := more (start w16) (.cells #[.string (str u), .string (str t), .int .i64 s, .int .i64 l, .slice (some ⟨g9, 0, none⟩) o.length occ, .int .i64 fr, .int .i64 ev, .int .i64 ct, .int .i64 un, .slice DC ds.length dcc, .slice MC ms.length mcc, .slice YC ys.length ycc, .slice XC x.length xcc] 27)
  have hkc := blk_new w16 #[.string (str u), .string (str t), .int .i64 s, .int .i64 l, .slice (some ⟨g9, 0, none⟩) o.length occ, .int .i64 fr, .int .i64 ev, .int .i64 ct, .int .i64 un, .slice DC ds.length dcc, .slice MC ms.length mcc, .slice YC ys.length ycc, .slice XC x.length xcc] 27
  have hlt9 : g9 < w16.heap.size := block_lt_of_cell hz9
  replace hz9 := cell_keep hmc hz9
  replace hfz := (hmc.frozen (p := ⟨g9, 0, none⟩) hlt9).trans hfz
  have HZ2 := hide (more (Below.setCell hb16 (p := ⟨g9, 0, none⟩) hgB (.int .i64 77)) (.cells #[.string (str u), .string (str t), .int .i64 s, .int .i64 l, .slice (some ⟨g9, 0, none⟩) o.length occ, .int .i64 fr, .int .i64 ev, .int .i64 ct, .int .i64 un, .slice DC ds.length dcc, .slice MC ms.length mcc, .slice YC ys.length ycc, .slice XC x.length xcc] 27))
  have c0 := hkc.cell 0 (by simp)
  have c1 := hkc.cell 1 (by simp)
  have c2 := hkc.cell 2 (by simp)
  have c3 := hkc.cell 3 (by simp)
  have c4 := hkc.cell 4 (by simp)
  have c5 := hkc.cell 5 (by simp)
  have c6 := hkc.cell 6 (by simp)
  have c7 := hkc.cell 7 (by simp)
  have c8 := hkc.cell 8 (by simp)
  have c9 := hkc.cell 9 (by simp)
  have c10 := hkc.cell 10 (by simp)
  have c11 := hkc.cell 11 (by simp)
  have c12 := hkc.cell 12 (by simp)
  simp only [List.getElem_cons_zero, List.getElem_cons_succ] at c0 c1 c2 c3 c4 c5 c6 c7 c8 c9 c10 c11 c12
  have HO4 := hide (HK2.out.cell 4 (by simp))
  have HC15 := hide hc15
  have q77 : (z15 == 77) = false := beq_eq_false_iff_ne.2 hne15
  have q77n : (z15 != 77) = true := by rw [bne, q77]; rfl
  clear hn16 hb16 hA9 hgB hmc hkc hg15 hc15 hne15 HR3 HLO HK2 HBZ
  go_upto_region 20 with fail
  generalize (w16.setCell ⟨g9, 0, none⟩ (.int .i64 77)).alloc (.cells #[.string (str u), .string (str t), .int .i64 s, .int .i64 l, .slice (some ⟨g9, 0, none⟩) o.length occ, .int .i64 fr, .int .i64 ev, .int .i64 ct, .int .i64 un, .slice DC ds.length dcc, .slice MC ms.length mcc, .slice YC ys.length ycc, .slice XC x.length xcc] 27) = Z2 at *
  clear hz9 hfz hlt9 c0 c1 c2 c3 c4 c5 c6 c7 c8 c9 c10 c11 c12
  replace HL := hide (HL.out.keep HZ2.out)
  replace HLB := hide (HLB.out.keep HZ2.out)
  replace HBX := hide (andthen HBX.out HZ2.out)
  replace s0 := cell_keep HZ2.out s0
  replace s1 := cell_keep HZ2.out s1
  replace s2 := cell_keep HZ2.out s2
  replace s3 := cell_keep HZ2.out s3
  replace s4 := cell_keep HZ2.out s4
  replace s5 := cell_keep HZ2.out s5
  replace s6 := cell_keep HZ2.out s6
  replace s7 := cell_keep HZ2.out s7
  replace s8 := cell_keep HZ2.out s8
  replace s9 := cell_keep HZ2.out s9
  replace s10 := cell_keep HZ2.out s10
  replace s11 := cell_keep HZ2.out s11
  replace s12 := cell_keep HZ2.out s12
  have o4 : Z2.cell? ⟨w12.heap.size + 1, 4, none⟩ = some (.slice (some ⟨g15, off15, none⟩) o.length cc15) := cell_keep HZ2.out HO4.out
  have o15 := cell_keep HZ2.out HC15.out
  have HKB2 := hide (HKB.out.keep HZ2.out)
  have q0 := HKB2.out.cell 0 (by simp)
  have q1 := HKB2.out.cell 1 (by simp)
  have q2 := HKB2.out.cell 2 (by simp)
  have q3 := HKB2.out.cell 3 (by simp)
  have q4 := HKB2.out.cell 4 (by simp)
  have q5 := HKB2.out.cell 5 (by simp)
  have q6 := HKB2.out.cell 6 (by simp)
  have q7 := HKB2.out.cell 7 (by simp)
  have q8 := HKB2.out.cell 8 (by simp)
  have q9 := HKB2.out.cell 9 (by simp)
  have q10 := HKB2.out.cell 10 (by simp)
  have q11 := HKB2.out.cell 11 (by simp)
  have q12 := HKB2.out.cell 12 (by simp)
  simp only [List.getElem_cons_zero, List.getElem_cons_succ] at q0 q1 q2 q3 q4 q5 q6 q7 q8 q9 q10 q11 q12
  have kk : (((M + 2 + 2 : Nat) : Int) == (M : Int) + 2 + 2) = true := by rw [beq_iff_eq]; omega
  go_wp2_with fail
  refine (esame_at ⟨u, t, s, l, o, ⟨fr, ev, ct, un, ds, ms, ys⟩, x⟩ ⟨u, t, s, l, o, ⟨fr, ev, ct, un, ds, ms, ys⟩, x⟩ mb m true _ HLB.out HL.out (Ev.sameE_self _)).mono ?_
  rintro _ w20 ⟨rfl, hb20⟩
  replace HBX := hide (andthen HBX.out hb20)
  replace o4 := cell_keep hb20 o4
  replace o15 := cell_keep hb20 o15
  clear hb20 HL HLB HKB HKB2 s0 s1 s2 s3 s4 s5 s6 s7 s8 s9 s10 s11 s12 q0 q1 q2 q3 q4 q5 q6 q7 q8 q9 q10 q11 q12
  go_wp2_with fail
  go_ret
  exact ⟨rfl, HBX.out⟩
set_option maxRecDepth 100000 in
set_option maxHeartbeats 2000000 in
theorem back_none (u t : Tx) (s l : Int) (o : List Int) (fr ev ct un : Int) (ds : List Wd) (ms ys x : List Int) (m : Mem) (y : Int) (Mo : ByteArray) (w : World) (h : EvL w ⟨u, t, s, l, o, ⟨fr, ev, ct, un, ds, ms, ys⟩, x⟩ m) (he : EnvE w) (hfew : fewEB ds.length ms.length ys.length (str u).size (str t).size o.length x.length = true) (his : Ev.isE ⟨u, t, s, l, o, ⟨fr, ev, ct, un, ds, ms, ys⟩, x⟩ = false) :
    Calls Tryz.prog 5 #[.agg #[.string (str u), .string (str t), .int .i64 s, .int .i64 l, .slice m.O o.length m.oc, .int .i64 fr, .int .i64 ev, .int .i64 ct, .int .i64 un, .slice m.D ds.length m.dc, .slice m.M ms.length m.mc, .slice m.Y ys.length m.yc, .slice m.X x.length m.xc], .int .u8 y, .string Mo] w (Ans w (.bool true)) := by
  have HE := hide he
  have HFEW := hide hfew
  have HBX := hide (more (start w) (.cells #[.string (str u), .string (str t), .int .i64 s, .int .i64 l, .slice m.O o.length m.oc, .int .i64 fr, .int .i64 ev, .int .i64 ct, .int .i64 un, .slice m.D ds.length m.dc, .slice m.M ms.length m.mc, .slice m.Y ys.length m.yc, .slice m.X x.length m.xc] 27))
  have hk := blk_new w #[.string (str u), .string (str t), .int .i64 s, .int .i64 l, .slice m.O o.length m.oc, .int .i64 fr, .int .i64 ev, .int .i64 ct, .int .i64 un, .slice m.D ds.length m.dc, .slice m.M ms.length m.mc, .slice m.Y ys.length m.yc, .slice m.X x.length m.xc] 27
  have s0 := hk.cell 0 (by simp)
  have s1 := hk.cell 1 (by simp)
  have s2 := hk.cell 2 (by simp)
  have s3 := hk.cell 3 (by simp)
  have s4 := hk.cell 4 (by simp)
  have s5 := hk.cell 5 (by simp)
  have s6 := hk.cell 6 (by simp)
  have s7 := hk.cell 7 (by simp)
  have s8 := hk.cell 8 (by simp)
  have s9 := hk.cell 9 (by simp)
  have s10 := hk.cell 10 (by simp)
  have s11 := hk.cell 11 (by simp)
  have s12 := hk.cell 12 (by simp)
  simp only [List.getElem_cons_zero, List.getElem_cons_succ] at s0 s1 s2 s3 s4 s5 s6 s7 s8 s9 s10 s11 s12
  have HL := hide (h.keep HBX.out)
  have HIS := hide his
  clear h he his hfew hk
  go_enter Tryz.func5, Tryz.ntmps5
  go_wp2_with fail
  refine (known_any _ (HE.out.keep HBX.out)).mono ?_
  rintro e w1 ⟨rfl, hb1⟩
  replace HBX := hide (andthen HBX.out hb1)
  replace HL := hide (HL.out.keep hb1)
  replace s0 := cell_keep hb1 s0
  replace s1 := cell_keep hb1 s1
  replace s2 := cell_keep hb1 s2
  replace s3 := cell_keep hb1 s3
  replace s4 := cell_keep hb1 s4
  replace s5 := cell_keep hb1 s5
  replace s6 := cell_keep hb1 s6
  replace s7 := cell_keep hb1 s7
  replace s8 := cell_keep hb1 s8
  replace s9 := cell_keep hb1 s9
  replace s10 := cell_keep hb1 s10
  replace s11 := cell_keep hb1 s11
  replace s12 := cell_keep hb1 s12
  clear hb1
  go_wp2_with fail
  refine (ans_is (fewE_any (str u) (str t) s l m.O o.length m.oc fr ev ct un m.D m.M m.Y m.X ds.length m.dc ms.length m.mc ys.length m.yc x.length m.xc _) HFEW.out).mono ?_
  rintro e w2 ⟨rfl, hb1⟩
  replace HBX := hide (andthen HBX.out hb1)
  replace HL := hide (HL.out.keep hb1)
  replace s0 := cell_keep hb1 s0
  replace s1 := cell_keep hb1 s1
  replace s2 := cell_keep hb1 s2
  replace s3 := cell_keep hb1 s3
  replace s4 := cell_keep hb1 s4
  replace s5 := cell_keep hb1 s5
  replace s6 := cell_keep hb1 s6
  replace s7 := cell_keep hb1 s7
  replace s8 := cell_keep hb1 s8
  replace s9 := cell_keep hb1 s9
  replace s10 := cell_keep hb1 s10
  replace s11 := cell_keep hb1 s11
  replace s12 := cell_keep hb1 s12
  clear hb1
  go_wp2_with fail
  refine (eis_at ⟨u, t, s, l, o, ⟨fr, ev, ct, un, ds, ms, ys⟩, x⟩ m false _ HL.out HIS.out).mono ?_
  rintro e w3 ⟨rfl, hb1⟩
  replace HBX := hide (andthen HBX.out hb1)
  clear hb1 HL s0 s1 s2 s3 s4 s5 s6 s7 s8 s9 s10 s11 s12
  go_wp2_with fail
  go_ret
  exact ⟨rfl, HBX.out⟩
set_option maxRecDepth 100000 in
set_option maxHeartbeats 2000000 in
theorem back_few (U T : ByteArray) (s l : Int) (O : Option Addr) (on oc : Nat) (fr ev ct un : Int) (D M Y X : Option Addr) (dn dc mn mc yn yc xn xc : Nat) (y : Int) (Mo : ByteArray) (w : World) (he : EnvE w) (hfew : fewEB dn mn yn U.size T.size on xn = false) :
    Calls Tryz.prog 5 #[.agg #[.string U, .string T, .int .i64 s, .int .i64 l, .slice O on oc, .int .i64 fr, .int .i64 ev, .int .i64 ct, .int .i64 un, .slice D dn dc, .slice M mn mc, .slice Y yn yc, .slice X xn xc], .int .u8 y, .string Mo] w (Ans w (.bool true)) := by
  have HE := hide he
  have HFEW := hide hfew
  have HBX := hide (more (start w) (.cells #[.string U, .string T, .int .i64 s, .int .i64 l, .slice O on oc, .int .i64 fr, .int .i64 ev, .int .i64 ct, .int .i64 un, .slice D dn dc, .slice M mn mc, .slice Y yn yc, .slice X xn xc] 27))
  have hk := blk_new w #[.string U, .string T, .int .i64 s, .int .i64 l, .slice O on oc, .int .i64 fr, .int .i64 ev, .int .i64 ct, .int .i64 un, .slice D dn dc, .slice M mn mc, .slice Y yn yc, .slice X xn xc] 27
  have s0 := hk.cell 0 (by simp)
  have s1 := hk.cell 1 (by simp)
  have s2 := hk.cell 2 (by simp)
  have s3 := hk.cell 3 (by simp)
  have s4 := hk.cell 4 (by simp)
  have s5 := hk.cell 5 (by simp)
  have s6 := hk.cell 6 (by simp)
  have s7 := hk.cell 7 (by simp)
  have s8 := hk.cell 8 (by simp)
  have s9 := hk.cell 9 (by simp)
  have s10 := hk.cell 10 (by simp)
  have s11 := hk.cell 11 (by simp)
  have s12 := hk.cell 12 (by simp)
  simp only [List.getElem_cons_zero, List.getElem_cons_succ] at s0 s1 s2 s3 s4 s5 s6 s7 s8 s9 s10 s11 s12
  clear he hfew hk
  go_enter Tryz.func5, Tryz.ntmps5
  go_wp2_with fail
  refine (known_any _ (HE.out.keep HBX.out)).mono ?_
  rintro e w1 ⟨rfl, hb1⟩
  replace HBX := hide (andthen HBX.out hb1)
  replace s0 := cell_keep hb1 s0
  replace s1 := cell_keep hb1 s1
  replace s2 := cell_keep hb1 s2
  replace s3 := cell_keep hb1 s3
  replace s4 := cell_keep hb1 s4
  replace s5 := cell_keep hb1 s5
  replace s6 := cell_keep hb1 s6
  replace s7 := cell_keep hb1 s7
  replace s8 := cell_keep hb1 s8
  replace s9 := cell_keep hb1 s9
  replace s10 := cell_keep hb1 s10
  replace s11 := cell_keep hb1 s11
  replace s12 := cell_keep hb1 s12
  clear hb1
  go_wp2_with fail
  refine (ans_is (fewE_any U T s l O on oc fr ev ct un D M Y X dn dc mn mc yn yc xn xc _) HFEW.out).mono ?_
  rintro e w2 ⟨rfl, hb1⟩
  replace HBX := hide (andthen HBX.out hb1)
  clear hb1 s0 s1 s2 s3 s4 s5 s6 s7 s8 s9 s10 s11 s12
  go_wp2_with fail
  go_ret
  exact ⟨rfl, HBX.out⟩
theorem back_any (U T : ByteArray) (s l : Int) (O : Option Addr) (on oc : Nat) (fr ev ct un : Int) (D M Y X : Option Addr) (dn dc mn mc yn yc xn xc : Nat) (o : List Int) (ds : List Wd) (ms ys x : List Int) (y : Int) (Mo : ByteArray) (w : World) (he : EnvE w)
    (h : (on = o.length ∧ o.length ≤ maxLen ∧ RowI w O o) ∧ ((dn = ds.length ∧ ds.length ≤ maxLen ∧ RowD w D ds) ∧ (mn = ms.length ∧ ms.length ≤ maxLen ∧ RowI w M ms) ∧ (yn = ys.length ∧ ys.length ≤ maxLen ∧ RowI w Y ys)) ∧ (xn = x.length ∧ x.length ≤ maxLen ∧ RowI w X x) ∧ U.size ≤ maxLen ∧ T.size ≤ maxLen ∧ (X = none → xc = 0)) (y1 : 0 ≤ y) (y2 : y ≤ 255) (hMo : Mo.size ≤ 140737488355328) :
    Calls Tryz.prog 5 #[.agg #[.string U, .string T, .int .i64 s, .int .i64 l, .slice O on oc, .int .i64 fr, .int .i64 ev, .int .i64 ct, .int .i64 un, .slice D dn dc, .slice M mn mc, .slice Y yn yc, .slice X xn xc], .int .u8 y, .string Mo] w (Ans w (.bool true)) := by
  obtain ⟨⟨rfl, _, ho⟩, ⟨⟨rfl, _, hd⟩, ⟨rfl, _, hm⟩, ⟨rfl, _, hy⟩⟩, ⟨rfl, _, hx⟩, _, _, _⟩ := h
  cases hf : fewEB ds.length ms.length ys.length U.size T.size o.length x.length with
  | false => exact back_few U T s l O o.length oc fr ev ct un D M Y X ds.length dc ms.length mc ys.length yc x.length xc y Mo w he hf
  | true =>
    have hb := (fewEB_iff _ _ _ _ _ _ _).1 hf
    have hU : str U.data.toList = U := data_str U
    have hT : str T.data.toList = T := data_str T
    have hul : U.data.toList.length ≤ 40000 := by rw [len_of]; omega
    have htl : T.data.toList.length ≤ 40000 := by rw [len_of]; omega
    generalize U.data.toList = u at *
    generalize T.data.toList = t at *
    subst hU hT
    have hl : EvL w ⟨u, t, s, l, o, ⟨fr, ev, ct, un, ds, ms, ys⟩, x⟩ ⟨O, oc, D, dc, M, mc, Y, yc, X, xc⟩ := ⟨ho, by show o.length ≤ 1000; omega, ⟨hd, rfl, by show ds.length ≤ 1000; omega, hm, rfl, by show ms.length ≤ 1000; omega, hy, rfl, by show ys.length ≤ 1000; omega⟩, hx, by show x.length ≤ 1000; omega, hul, htl⟩
    cases hi : Ev.isE ⟨u, t, s, l, o, ⟨fr, ev, ct, un, ds, ms, ys⟩, x⟩ with
    | false => exact back_none u t s l o fr ev ct un ds ms ys x ⟨O, oc, D, dc, M, mc, Y, yc, X, xc⟩ y Mo w hl he hf hi
    | true =>
      exact back_yes u t s l o fr ev ct un ds ms ys x ⟨O, oc, D, dc, M, mc, Y, yc, X, xc⟩ y Mo w y1 y2 hMo hl he hf hi

end Go.Proofs.YtgdjeddelcfgeaaGreatDoor

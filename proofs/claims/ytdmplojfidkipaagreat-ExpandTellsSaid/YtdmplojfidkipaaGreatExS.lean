/- Walk of the reference of layer 6: Starts. Written by recipes/ex2.py. -/
import Derived.Test.YtdmplojfidkipaaGreatExR
namespace Go.Proofs.YtdmplojfidkipaaGreat.R
open Go.RowKit Rul Go.Sort

/-- a call answers a row of its own, and what is wrong. -/
def GivesE (w : World) (x : List Int × Int) (e : Ending) (w' : World) : Prop := ∃ v, e = .returned (.tuple #[v, .int .i64 x.2]) ∧ OwnI w' w.heap.size v x.1 ∧ Below w.heap.size w w'
theorem gives_e {w w' : World} {x : List Int × Int} {l : List Int} {n : Int} {v : Value} {e : Ending} (hx : x = (l, n)) (he : e = .returned (.tuple #[v, .int .i64 n])) (ho : OwnI w' w.heap.size v l) (hb : Below w.heap.size w w') : GivesE w x e w' := by
  subst hx; exact ⟨v, he, ho, hb⟩
theorem row_one (w : World) (s : Int) : RowI (w.alloc (.cells #[.int .i64 s] 3)) (some ⟨w.heap.size, 0, none⟩) [s] := fun _ =>
  ⟨w.heap.size, 0, rfl, by simp, fun i hi => by
    obtain rfl : i = 0 := by simpa using hi
    rw [World.cell?_alloc_at _ _ _ _ rfl]; rfl⟩
theorem starts_12 (r : Rul.T) (s : Int) (ex : List Int) (h : isB r = false) : startsE r s ex = ([], 12) := by unfold startsE; rw [if_pos h]
theorem starts_10 (r : Rul.T) (s : Int) (ex : List Int) (h : isB r = true) (hs : s < 0 ∨ 52596000 ≤ s) : startsE r s ex = ([], 10) := by unfold startsE; rw [if_neg (by rw [h]; simp), if_pos hs]
theorem starts_13 (r : Rul.T) (s : Int) (ex L : List Int) (h : isB r = true) (h1 : 0 ≤ s) (h2 : s < 52596000) (hL : (if r.fr = 0 then [s] else allL r s) = L) (hl : 40 < L.length) : startsE r s ex = ([], 13) := by
  unfold startsE; rw [if_neg (by rw [h]; simp), if_neg (by omega), hL, if_pos hl]
theorem starts_at (r : Rul.T) (s : Int) (ex L : List Int) (h : isB r = true) (h1 : 0 ≤ s) (h2 : s < 52596000) (hL : (if r.fr = 0 then [s] else allL r s) = L) (hl : ¬ 40 < L.length) :
    (L.filter (fun m => !outB ex m) = [] → startsE r s ex = ([], 23)) ∧ (L.filter (fun m => !outB ex m) ≠ [] → startsE r s ex = (L.filter (fun m => !outB ex m), 0)) := by
  unfold startsE; rw [if_neg (by rw [h]; simp), if_neg (by omega), hL, if_neg hl]
  exact ⟨fun g => by rw [if_pos g], fun g => by rw [if_neg g]⟩
set_option maxRecDepth 100000 in
set_option maxHeartbeats 4000000 in
theorem starts_any (fr ev ct un : Int) (D M Y : Option Addr) (dn dc mn mc yn yc : Nat) (ds : List Wd) (ms ys : List Int) (s : Int) (X : Option Addr) (xn xc : Nat) (ex : List Int) (w : World) (h : Lies w D dn M mn Y yn ds ms ys) (hx : RowI w X ex) (hxn : xn = ex.length) (hxl : ex.length ≤ 1000) :
    Calls Tryz.prog 7 #[.agg #[.int .i64 fr, .int .i64 ev, .int .i64 ct, .int .i64 un, .slice D dn dc, .slice M mn mc, .slice Y yn yc], .int .i64 s, .slice X xn xc] w (GivesE w (startsE ⟨fr, ev, ct, un, ds, ms, ys⟩ s ex)) := by
  have HBX := hide (more (start w) (.cells #[.int .i64 fr, .int .i64 ev, .int .i64 ct, .int .i64 un, .slice D dn dc, .slice M mn mc, .slice Y yn yc] 25))
  have HL := hide (h.keep HBX.out)
  have HX := hide (hx.keep HBX.out)
  have s0 : (w.alloc (.cells #[.int .i64 fr, .int .i64 ev, .int .i64 ct, .int .i64 un, .slice D dn dc, .slice M mn mc, .slice Y yn yc] 25)).cell? ⟨w.heap.size, 0, none⟩ = some (.int .i64 fr) := by rw [World.cell?_alloc_at _ _ _ _ rfl]; rfl
  have s1 : (w.alloc (.cells #[.int .i64 fr, .int .i64 ev, .int .i64 ct, .int .i64 un, .slice D dn dc, .slice M mn mc, .slice Y yn yc] 25)).cell? ⟨w.heap.size, 1, none⟩ = some (.int .i64 ev) := by rw [World.cell?_alloc_at _ _ _ _ rfl]; rfl
  have s2 : (w.alloc (.cells #[.int .i64 fr, .int .i64 ev, .int .i64 ct, .int .i64 un, .slice D dn dc, .slice M mn mc, .slice Y yn yc] 25)).cell? ⟨w.heap.size, 2, none⟩ = some (.int .i64 ct) := by rw [World.cell?_alloc_at _ _ _ _ rfl]; rfl
  have s3 : (w.alloc (.cells #[.int .i64 fr, .int .i64 ev, .int .i64 ct, .int .i64 un, .slice D dn dc, .slice M mn mc, .slice Y yn yc] 25)).cell? ⟨w.heap.size, 3, none⟩ = some (.int .i64 un) := by rw [World.cell?_alloc_at _ _ _ _ rfl]; rfl
  have s4 : (w.alloc (.cells #[.int .i64 fr, .int .i64 ev, .int .i64 ct, .int .i64 un, .slice D dn dc, .slice M mn mc, .slice Y yn yc] 25)).cell? ⟨w.heap.size, 4, none⟩ = some (.slice D dn dc) := by rw [World.cell?_alloc_at _ _ _ _ rfl]; rfl
  have s5 : (w.alloc (.cells #[.int .i64 fr, .int .i64 ev, .int .i64 ct, .int .i64 un, .slice D dn dc, .slice M mn mc, .slice Y yn yc] 25)).cell? ⟨w.heap.size, 5, none⟩ = some (.slice M mn mc) := by rw [World.cell?_alloc_at _ _ _ _ rfl]; rfl
  have s6 : (w.alloc (.cells #[.int .i64 fr, .int .i64 ev, .int .i64 ct, .int .i64 un, .slice D dn dc, .slice M mn mc, .slice Y yn yc] 25)).cell? ⟨w.heap.size, 6, none⟩ = some (.slice Y yn yc) := by rw [World.cell?_alloc_at _ _ _ _ rfl]; rfl
  have HXN := hide hxn
  clear h hx hxn
  cases hi : isB ⟨fr, ev, ct, un, ds, ms, ys⟩
  · have HE := hide (starts_12 ⟨fr, ev, ct, un, ds, ms, ys⟩ s ex hi)
    have HI := hide hi
    clear hi
    go_enter Tryz.func7, Tryz.ntmps7
    go_wp2_with fail
    generalize (w.alloc (.cells #[.int .i64 fr, .int .i64 ev, .int .i64 ct, .int .i64 un, .slice D dn dc, .slice M mn mc, .slice Y yn yc] 25)) = W at *
    refine (ans_is (is_any fr ev ct un D M Y dn dc mn mc yn yc ds ms ys _ HL.out) HI.out).mono ?_
    rintro e u1 ⟨rfl, hb⟩
    replace HBX := hide (andthen HBX.out hb)
    replace HL := hide (HL.out.keep hb)
    replace s0 := cell_keep hb s0
    replace s1 := cell_keep hb s1
    replace s2 := cell_keep hb s2
    replace s3 := cell_keep hb s3
    replace s4 := cell_keep hb s4
    replace s5 := cell_keep hb s5
    replace s6 := cell_keep hb s6
    replace HX := hide (HX.out.keep hb)
    clear hb
    go_wp2_with fail
    go_ret2
    exact gives_e HE.out rfl (ownI_nil _ _) HBX.out
  have HI := hide hi
  by_cases hs1 : s < 0
  · have HE := hide (starts_10 ⟨fr, ev, ct, un, ds, ms, ys⟩ s ex hi (Or.inl hs1))
    clear hi
    go_enter Tryz.func7, Tryz.ntmps7
    go_wp2_with fail
    generalize (w.alloc (.cells #[.int .i64 fr, .int .i64 ev, .int .i64 ct, .int .i64 un, .slice D dn dc, .slice M mn mc, .slice Y yn yc] 25)) = W at *
    refine (ans_is (is_any fr ev ct un D M Y dn dc mn mc yn yc ds ms ys _ HL.out) HI.out).mono ?_
    rintro e u1 ⟨rfl, hb⟩
    replace HBX := hide (andthen HBX.out hb)
    replace HL := hide (HL.out.keep hb)
    replace s0 := cell_keep hb s0
    replace s1 := cell_keep hb s1
    replace s2 := cell_keep hb s2
    replace s3 := cell_keep hb s3
    replace s4 := cell_keep hb s4
    replace s5 := cell_keep hb s5
    replace s6 := cell_keep hb s6
    replace HX := hide (HX.out.keep hb)
    clear hb
    go_wp2_with fail
    go_ret2
    exact gives_e HE.out rfl (ownI_nil _ _) HBX.out
  by_cases hs2 : 52596000 ≤ s
  · have HE := hide (starts_10 ⟨fr, ev, ct, un, ds, ms, ys⟩ s ex hi (Or.inr hs2))
    clear hi
    go_enter Tryz.func7, Tryz.ntmps7
    go_wp2_with fail
    generalize (w.alloc (.cells #[.int .i64 fr, .int .i64 ev, .int .i64 ct, .int .i64 un, .slice D dn dc, .slice M mn mc, .slice Y yn yc] 25)) = W at *
    refine (ans_is (is_any fr ev ct un D M Y dn dc mn mc yn yc ds ms ys _ HL.out) HI.out).mono ?_
    rintro e u1 ⟨rfl, hb⟩
    replace HBX := hide (andthen HBX.out hb)
    replace HL := hide (HL.out.keep hb)
    replace s0 := cell_keep hb s0
    replace s1 := cell_keep hb s1
    replace s2 := cell_keep hb s2
    replace s3 := cell_keep hb s3
    replace s4 := cell_keep hb s4
    replace s5 := cell_keep hb s5
    replace s6 := cell_keep hb s6
    replace HX := hide (HX.out.keep hb)
    clear hb
    go_wp2_with fail
    go_ret2
    exact gives_e HE.out rfl (ownI_nil _ _) HBX.out
  replace hs1 : 0 ≤ s := by omega
  replace hs2 : s < 52596000 := by omega
  by_cases h0 : fr = 0
  · have HS := hide (starts_at ⟨fr, ev, ct, un, ds, ms, ys⟩ s ex [s] hi hs1 hs2 (by show (if fr = 0 then _ else _) = _; rw [if_pos h0]) (by simp))
    have f0 : (fr != 0) = false := by rw [h0]; rfl
    have HLL : Hid ([s].length ≤ 41) := hide (by simp)
    clear hi h0
    go_enter Tryz.func7, Tryz.ntmps7
    go_wp2_with fail
    generalize (w.alloc (.cells #[.int .i64 fr, .int .i64 ev, .int .i64 ct, .int .i64 un, .slice D dn dc, .slice M mn mc, .slice Y yn yc] 25)) = W at *
    refine (ans_is (is_any fr ev ct un D M Y dn dc mn mc yn yc ds ms ys _ HL.out) HI.out).mono ?_
    rintro e u1 ⟨rfl, hb⟩
    replace HBX := hide (andthen HBX.out hb)
    replace HL := hide (HL.out.keep hb)
    replace s0 := cell_keep hb s0
    replace s1 := cell_keep hb s1
    replace s2 := cell_keep hb s2
    replace s3 := cell_keep hb s3
    replace s4 := cell_keep hb s4
    replace s5 := cell_keep hb s5
    replace s6 := cell_keep hb s6
    replace HX := hide (HX.out.keep hb)
    clear hb
    have hs0 : w.heap.size < u1.heap.size := block_lt_of_cell s0
    have hb := more (start u1) (.cells #[.int .i64 s] 3)
    have HR : Hid (RowI (u1.alloc (.cells #[.int .i64 s] 3)) (some ⟨u1.heap.size, 0, none⟩) [s]) := hide (row_one u1 s)
    replace HX := hide (HX.out.keep hb)
    replace HBX := hide (andthen HBX.out hb)
    replace s0 := cell_keep hb s0
    replace s1 := cell_keep hb s1
    replace s2 := cell_keep hb s2
    replace s3 := cell_keep hb s3
    replace s4 := cell_keep hb s4
    replace s5 := cell_keep hb s5
    replace s6 := cell_keep hb s6
    replace HL := hide (HL.out.keep hb)
    clear hb
    go_wp2_with fail
    generalize (u1.alloc (.cells #[.int .i64 s] 3)) = U at *
    generalize u1.heap.size = XL at *
    go_loopw [9, 10] (fun v i wr => ∃ j : Nat, j ≤ 1 ∧ i = .int .i64 j ∧ OwnI wr U.heap.size v (([s].take j).filter (fun m => !outB ex m)) ∧ Below U.heap.size U wr) (fun _ i _ => 1 - (intOf i).toNat)
    case atStart => exact ⟨0, Nat.zero_le _, rfl, ownI_nil _ _, start _⟩
    case round =>
      obtain ⟨j, hj, rfl, hown, hbw⟩ := hrel
      have HO := hide hown
      have HBR := hide hbw
      clear hown hbw
      by_cases hlt : j < 1
      · obtain rfl : j = 0 := by omega
        obtain ⟨b1, o1, he, hb1, hc1⟩ := HR.out (by simp)
        injection he with he
        injection he with he1 he2
        subst he1 he2
        obtain ⟨m, hm⟩ : ∃ m, s = m := ⟨_, rfl⟩
        have p1 : wr.cell? ⟨XL, 0, none⟩ = some (.int .i64 m) := by rw [← hm]; exact (HBR.out.cell (p := ⟨XL, _, none⟩) hb1).trans (hc1 0 (by simp))
        have HX2 := hide (HX.out.keep HBR.out)
        clear hc1
        cases ho : outB ex m
        · have HN := hide (filt_yes (fun m => !outB ex m) [s] 0 (by simp) (by show (!outB ex s) = _; rw [hm, ho]; rfl))
          rw [show [s][0] = m from hm] at HN
          have HOU := hide ho
          clear ho hm
          go_wp2_with fail
          refine (ans_is (in_any X xn xc ex m _ HX2.out HXN.out hxl) HOU.out).mono ?_
          rintro e v1 ⟨rfl, hb⟩
          replace HO := hide (HO.out.keep hb)
          replace HBR := hide (andthen HBR.out hb)
          have p2 := cell_keep hb p1
          clear hb p1
          have hsz := HBR.out.size
          have hown := HO.out
          have hln : (([s].take 0).filter (fun m => !outB ex m)).length ≤ 1000000 := Nat.le_trans (List.length_filter_le _ _) (Nat.le_trans (List.length_take_le _ _) (by omega))
          go_wp2_with (at_builtin; refine wp_oneI (l := ([s].take 0).filter (fun m => !outB ex m)) (p := m) rfl _ _ rfl rfl rfl rfl hown hsz hln ?_; intro v3 w3 hown3 hb3)
          have HO3 := hide hown3
          have HB3 := hide (HBR.out.trans hb3)
          clear hown hown3 hb3 hsz hln
          go_wp2_with fail
          go_roundw
          case rel => exact ⟨1, by omega, by go_num, by rw [HN.out]; exact HO3.out, HB3.out⟩
          case measure => simp [intOf]
        · have HN := hide (filt_no (fun m => !outB ex m) [s] 0 (by simp) (by show (!outB ex s) = _; rw [hm, ho]; rfl))
          have HOU := hide ho
          clear ho hm
          go_wp2_with fail
          refine (ans_is (in_any X xn xc ex m _ HX2.out HXN.out hxl) HOU.out).mono ?_
          rintro e v1 ⟨rfl, hb⟩
          replace HO := hide (HO.out.keep hb)
          replace HBR := hide (andthen HBR.out hb)
          clear hb p1
          go_wp2_with fail
          go_roundw
          case rel => exact ⟨1, by omega, by go_num, by rw [HN.out]; exact HO.out, HBR.out⟩
          case measure => simp [intOf]
      · obtain rfl : j = 1 := by omega
        rw [show [s].take 1 = [s] from rfl] at HO
        obtain ⟨A3, c3, rfl, _⟩ := HO.out.row
        by_cases hz : ([s].filter (fun m => !outB ex m)).length = 0
        · have HE := hide (HS.out.1 (List.eq_nil_of_length_eq_zero hz))
          have gz : ((([s].filter (fun m => !outB ex m)).length : Int) == 0) = true := by rw [beq_iff_eq]; omega
          have gz2 : (([s].filter (fun m => !outB ex m)).length == 0) = true := by rw [beq_iff_eq]; exact hz
          clear hz
          go_wp2_with fail
          go_ret2
          exact gives_e HE.out rfl (ownI_nil _ _) (andthen HBX.out HBR.out)
        · have HE := hide (HS.out.2 (by intro hc; rw [hc] at hz; exact hz rfl))
          have gz : ((([s].filter (fun m => !outB ex m)).length : Int) == 0) = false := by rw [beq_eq_false_iff_ne]; omega
          have gz2 : (([s].filter (fun m => !outB ex m)).length == 0) = false := by rw [beq_eq_false_iff_ne]; exact hz
          clear hz
          go_wp2_with fail
          go_ret2
          exact gives_e HE.out rfl (OwnI.low HO.out HBX.out.size) (andthen HBX.out HBR.out)
  · have hr := isB_rec _ hi h0
    have HRC := hide hr
    obtain ⟨L, hL⟩ : ∃ L, allL ⟨fr, ev, ct, un, ds, ms, ys⟩ s = L := ⟨_, rfl⟩
    have HAL := hide hL
    have hLL : L.length ≤ 41 := by
      have a := allL_len ⟨fr, ev, ct, un, ds, ms, ys⟩ s
      rw [hL] at a
      have b : capN ⟨fr, ev, ct, un, ds, ms, ys⟩ ≤ 41 := by
        have hrng : rngB fr ev ct un = true := by rw [recB_is, Bool.and_eq_true] at hr; exact hr.1
        rw [rng_iff] at hrng
        unfold capN
        show (if 0 < ct then ct.toNat else 41) ≤ 41
        split <;> omega
      omega
    have HLL := hide hLL
    have hLe : (if fr = 0 then [s] else allL ⟨fr, ev, ct, un, ds, ms, ys⟩ s) = L := by rw [if_neg h0]; exact hL
    have f0 : (fr != 0) = true := by rw [bne_iff_ne]; exact h0
    by_cases hl : 40 < L.length
    · have HE := hide (starts_13 ⟨fr, ev, ct, un, ds, ms, ys⟩ s ex L hi hs1 hs2 hLe hl)
      have gl : (40 : Int) < (L.length : Int) := by omega
      clear hi h0 hr hL hLe hLL
      go_enter Tryz.func7, Tryz.ntmps7
      go_wp2_with fail
      generalize (w.alloc (.cells #[.int .i64 fr, .int .i64 ev, .int .i64 ct, .int .i64 un, .slice D dn dc, .slice M mn mc, .slice Y yn yc] 25)) = W at *
      refine (ans_is (is_any fr ev ct un D M Y dn dc mn mc yn yc ds ms ys _ HL.out) HI.out).mono ?_
      rintro e u1 ⟨rfl, hb⟩
      replace HBX := hide (andthen HBX.out hb)
      replace HL := hide (HL.out.keep hb)
      replace s0 := cell_keep hb s0
      replace s1 := cell_keep hb s1
      replace s2 := cell_keep hb s2
      replace s3 := cell_keep hb s3
      replace s4 := cell_keep hb s4
      replace s5 := cell_keep hb s5
      replace s6 := cell_keep hb s6
      replace HX := hide (HX.out.keep hb)
      clear hb
      have hs0 : w.heap.size < u1.heap.size := block_lt_of_cell s0
      have hb := more (start u1) (.cells #[.int .i64 s] 3)
      replace HX := hide (HX.out.keep hb)
      replace HBX := hide (andthen HBX.out hb)
      replace s0 := cell_keep hb s0
      replace s1 := cell_keep hb s1
      replace s2 := cell_keep hb s2
      replace s3 := cell_keep hb s3
      replace s4 := cell_keep hb s4
      replace s5 := cell_keep hb s5
      replace s6 := cell_keep hb s6
      replace HL := hide (HL.out.keep hb)
      clear hb
      go_wp2_with fail
      generalize (u1.alloc (.cells #[.int .i64 s] 3)) = W1 at *
      refine (all_any fr ev ct un D M Y dn dc mn mc yn yc ds ms ys s _ HL.out HRC.out hs1 hs2).mono ?_
      rintro e u2 ⟨v2, rfl, hown, hb⟩
      rw [HAL.out] at hown
      obtain ⟨A, cap, rfl, hrow⟩ := hown.row
      have HR := hide hrow
      replace HX := hide (HX.out.keep hb)
      replace HBX := hide (andthen HBX.out hb)
      clear hb hown hrow
      go_wp2_with fail
      go_ret2
      exact gives_e HE.out rfl (ownI_nil _ _) HBX.out
    · have HS := hide (starts_at ⟨fr, ev, ct, un, ds, ms, ys⟩ s ex L hi hs1 hs2 hLe hl)
      have gl : (L.length : Int) ≤ 40 := by omega
      clear hi h0 hr hL hLe hLL hl
      go_enter Tryz.func7, Tryz.ntmps7
      go_wp2_with fail
      generalize (w.alloc (.cells #[.int .i64 fr, .int .i64 ev, .int .i64 ct, .int .i64 un, .slice D dn dc, .slice M mn mc, .slice Y yn yc] 25)) = W at *
      refine (ans_is (is_any fr ev ct un D M Y dn dc mn mc yn yc ds ms ys _ HL.out) HI.out).mono ?_
      rintro e u1 ⟨rfl, hb⟩
      replace HBX := hide (andthen HBX.out hb)
      replace HL := hide (HL.out.keep hb)
      replace s0 := cell_keep hb s0
      replace s1 := cell_keep hb s1
      replace s2 := cell_keep hb s2
      replace s3 := cell_keep hb s3
      replace s4 := cell_keep hb s4
      replace s5 := cell_keep hb s5
      replace s6 := cell_keep hb s6
      replace HX := hide (HX.out.keep hb)
      clear hb
      have hs0 : w.heap.size < u1.heap.size := block_lt_of_cell s0
      have hb := more (start u1) (.cells #[.int .i64 s] 3)
      replace HX := hide (HX.out.keep hb)
      replace HBX := hide (andthen HBX.out hb)
      replace s0 := cell_keep hb s0
      replace s1 := cell_keep hb s1
      replace s2 := cell_keep hb s2
      replace s3 := cell_keep hb s3
      replace s4 := cell_keep hb s4
      replace s5 := cell_keep hb s5
      replace s6 := cell_keep hb s6
      replace HL := hide (HL.out.keep hb)
      clear hb
      go_wp2_with fail
      generalize (u1.alloc (.cells #[.int .i64 s] 3)) = W1 at *
      refine (all_any fr ev ct un D M Y dn dc mn mc yn yc ds ms ys s _ HL.out HRC.out hs1 hs2).mono ?_
      rintro e u2 ⟨v2, rfl, hown, hb⟩
      rw [HAL.out] at hown
      obtain ⟨A, cap, rfl, hrow⟩ := hown.row
      have HR := hide hrow
      replace HX := hide (HX.out.keep hb)
      replace HBX := hide (andthen HBX.out hb)
      clear hb hown hrow
      go_wp2_with fail
      generalize u2 = U at *
      go_loopw [9, 10] (fun v i wr => ∃ j : Nat, j ≤ L.length ∧ i = .int .i64 j ∧ OwnI wr U.heap.size v ((L.take j).filter (fun m => !outB ex m)) ∧ Below U.heap.size U wr) (fun _ i _ => L.length - (intOf i).toNat)
      case atStart => exact ⟨0, Nat.zero_le _, rfl, ownI_nil _ _, start _⟩
      case round =>
        obtain ⟨j, hj, rfl, hown, hbw⟩ := hrel
        have HO := hide hown
        have HBR := hide hbw
        clear hown hbw
        by_cases hlt : j < L.length
        · obtain ⟨b1, o1, rfl, hb1, hc1⟩ := HR.out (by intro h0; rw [h0] at hlt; exact absurd hlt (Nat.not_lt_zero _))
          obtain ⟨m, hm⟩ : ∃ m, L[j] = m := ⟨_, rfl⟩
          have p1 : wr.cell? ⟨b1, o1 + j, none⟩ = some (.int .i64 m) := by rw [← hm]; exact (HBR.out.cell (p := ⟨b1, _, none⟩) hb1).trans (hc1 j hlt)
          have hi0 : (0 : Int) ≤ (j : Int) := by omega
          have hi1 : (j : Int) < (L.length : Int) := by omega
          have hi2 : (j : Int) ≤ 41 := by have := HLL.out; omega
          have HX2 := hide (HX.out.keep HBR.out)
          clear hc1
          cases ho : outB ex m
          · have HN := hide (filt_yes (fun m => !outB ex m) L j hlt (by simp only [hm]; rw [ho]; rfl))
            rw [hm] at HN
            have HOU := hide ho
            clear ho hm
            go_wp2_with fail
            refine (ans_is (in_any X xn xc ex m _ HX2.out HXN.out hxl) HOU.out).mono ?_
            rintro e v1 ⟨rfl, hb⟩
            replace HO := hide (HO.out.keep hb)
            replace HBR := hide (andthen HBR.out hb)
            have p2 := cell_keep hb p1
            clear hb p1
            have hsz := HBR.out.size
            have hown := HO.out
            have hln : ((L.take j).filter (fun m => !outB ex m)).length ≤ 1000000 := Nat.le_trans (List.length_filter_le _ _) (Nat.le_trans (List.length_take_le _ _) (by omega))
            go_wp2_with (at_builtin; refine wp_oneI (l := (L.take j).filter (fun m => !outB ex m)) (p := m) rfl _ _ rfl rfl rfl rfl hown hsz hln ?_; intro v3 w3 hown3 hb3)
            have HO3 := hide hown3
            have HB3 := hide (HBR.out.trans hb3)
            clear hown hown3 hb3 hsz hln
            go_wp2_with fail
            go_roundw
            case rel => exact ⟨j + 1, by omega, by go_num, by rw [HN.out]; exact HO3.out, HB3.out⟩
            case measure => simp [intOf]; omega
          · have HN := hide (filt_no (fun m => !outB ex m) L j hlt (by simp only [hm]; rw [ho]; rfl))
            have HOU := hide ho
            clear ho hm
            go_wp2_with fail
            refine (ans_is (in_any X xn xc ex m _ HX2.out HXN.out hxl) HOU.out).mono ?_
            rintro e v1 ⟨rfl, hb⟩
            replace HO := hide (HO.out.keep hb)
            replace HBR := hide (andthen HBR.out hb)
            clear hb p1
            go_wp2_with fail
            go_roundw
            case rel => exact ⟨j + 1, by omega, by go_num, by rw [HN.out]; exact HO.out, HBR.out⟩
            case measure => simp [intOf]; omega
        · obtain rfl : j = L.length := by omega
          rw [List.take_length] at HO
          obtain ⟨A3, c3, rfl, _⟩ := HO.out.row
          by_cases hz : (L.filter (fun m => !outB ex m)).length = 0
          · have HE := hide (HS.out.1 (List.eq_nil_of_length_eq_zero hz))
            have gz : (((L.filter (fun m => !outB ex m)).length : Int) == 0) = true := by rw [beq_iff_eq]; omega
            have gz2 : ((L.filter (fun m => !outB ex m)).length == 0) = true := by rw [beq_iff_eq]; exact hz
            clear hz
            go_wp2_with fail
            go_ret2
            exact gives_e HE.out rfl (ownI_nil _ _) (andthen HBX.out HBR.out)
          · have HE := hide (HS.out.2 (by intro hc; rw [hc] at hz; exact hz rfl))
            have gz : (((L.filter (fun m => !outB ex m)).length : Int) == 0) = false := by rw [beq_eq_false_iff_ne]; omega
            have gz2 : ((L.filter (fun m => !outB ex m)).length == 0) = false := by rw [beq_eq_false_iff_ne]; exact hz
            clear hz
            go_wp2_with fail
            go_ret2
            exact gives_e HE.out rfl (OwnI.low HO.out HBX.out.size) (andthen HBX.out HBR.out)

end Go.Proofs.YtdmplojfidkipaaGreat.R

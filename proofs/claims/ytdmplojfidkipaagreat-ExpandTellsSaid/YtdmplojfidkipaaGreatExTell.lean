/- ExpandTells walked. Written by recipes/ex5.py. -/
import Derived.Test.YtdmplojfidkipaaGreatExK
import Derived.Test.YtdmplojfidkipaaGreatExP
import Derived.Test.YtdmplojfidkipaaGreatTp
namespace Go.Proofs.YtdmplojfidkipaaGreat
open Go.RowKit Rul Go.Sort Spn

theorem sameS (A B : Option Addr) (c d : Nat) (l : List (Int × Int)) (w : World) (hl : S2.Row w A l) (hk : S2.Row w B l) (hs : l.length ≤ 1000) :
    Calls Tryz.prog 11 #[.slice A l.length c, .slice B l.length d] w (Ans w (.bool true)) :=
  (S2.R.same_any A B _ _ c d l l w hl hk rfl rfl (by omega) (by omega)).mono fun e w' ⟨he, hb⟩ => ⟨by rw [he]; simp, hb⟩
theorem spans_len (r : Rul.T) (s g : Int) (ex : List Int) : (spansE r s g ex).1.length ≤ 41 := by
  have h := (R.starts_in r s ex).2
  unfold spansE
  by_cases a1 : isB r = false
  · rw [if_pos a1]; simp
  rw [if_neg a1]
  by_cases a2 : s < 0 ∨ 52596000 ≤ s
  · rw [if_pos a2]; simp
  rw [if_neg a2]
  by_cases a3 : g < 1 ∨ 10080 < g
  · rw [if_pos a3]; simp
  rw [if_neg a3]
  by_cases a4 : (startsE r s ex).2 ≠ 0
  · rw [if_pos a4]; simp
  rw [if_neg a4]
  by_cases a5 : ((startsE r s ex).1.all fun m => decide (m + g ≤ 52596000)) = false
  · rw [if_pos a5]; simp
  rw [if_neg a5, List.length_map]; exact h
set_option maxRecDepth 100000 in
set_option maxHeartbeats 4000000 in
theorem tell6_any (fr ev ct un : Int) (D M Y : Option Addr) (dn dc mn mc yn yc : Nat) (ds : List Wd) (ms ys : List Int) (s g : Int) (X : Option Addr) (xn xc : Nat) (ex : List Int) (w : World) (h : (dn = ds.length ∧ ds.length ≤ maxLen ∧ RowD w D ds) ∧ (mn = ms.length ∧ ms.length ≤ maxLen ∧ RowI w M ms) ∧ (yn = ys.length ∧ ys.length ≤ maxLen ∧ RowI w Y ys)) (hx : RowI w X ex) (hxn : xn = ex.length) (_hxm : ex.length ≤ maxLen) :
    Calls Tryz.prog 3 #[.agg #[.int .i64 fr, .int .i64 ev, .int .i64 ct, .int .i64 un, .slice D dn dc, .slice M mn mc, .slice Y yn yc], .int .i64 s, .int .i64 g, .slice X xn xc] w (Ans w (.bool true)) := by
  have HBX := hide (more (start w) (.cells #[.int .i64 fr, .int .i64 ev, .int .i64 ct, .int .i64 un, .slice D dn dc, .slice M mn mc, .slice Y yn yc] 25))
  have s0 : (w.alloc (.cells #[.int .i64 fr, .int .i64 ev, .int .i64 ct, .int .i64 un, .slice D dn dc, .slice M mn mc, .slice Y yn yc] 25)).cell? ⟨w.heap.size, 0, none⟩ = some (.int .i64 fr) := by rw [World.cell?_alloc_at _ _ _ _ rfl]; rfl
  have s1 : (w.alloc (.cells #[.int .i64 fr, .int .i64 ev, .int .i64 ct, .int .i64 un, .slice D dn dc, .slice M mn mc, .slice Y yn yc] 25)).cell? ⟨w.heap.size, 1, none⟩ = some (.int .i64 ev) := by rw [World.cell?_alloc_at _ _ _ _ rfl]; rfl
  have s2 : (w.alloc (.cells #[.int .i64 fr, .int .i64 ev, .int .i64 ct, .int .i64 un, .slice D dn dc, .slice M mn mc, .slice Y yn yc] 25)).cell? ⟨w.heap.size, 2, none⟩ = some (.int .i64 ct) := by rw [World.cell?_alloc_at _ _ _ _ rfl]; rfl
  have s3 : (w.alloc (.cells #[.int .i64 fr, .int .i64 ev, .int .i64 ct, .int .i64 un, .slice D dn dc, .slice M mn mc, .slice Y yn yc] 25)).cell? ⟨w.heap.size, 3, none⟩ = some (.int .i64 un) := by rw [World.cell?_alloc_at _ _ _ _ rfl]; rfl
  have s4 : (w.alloc (.cells #[.int .i64 fr, .int .i64 ev, .int .i64 ct, .int .i64 un, .slice D dn dc, .slice M mn mc, .slice Y yn yc] 25)).cell? ⟨w.heap.size, 4, none⟩ = some (.slice D dn dc) := by rw [World.cell?_alloc_at _ _ _ _ rfl]; rfl
  have s5 : (w.alloc (.cells #[.int .i64 fr, .int .i64 ev, .int .i64 ct, .int .i64 un, .slice D dn dc, .slice M mn mc, .slice Y yn yc] 25)).cell? ⟨w.heap.size, 5, none⟩ = some (.slice M mn mc) := by rw [World.cell?_alloc_at _ _ _ _ rfl]; rfl
  have s6 : (w.alloc (.cells #[.int .i64 fr, .int .i64 ev, .int .i64 ct, .int .i64 un, .slice D dn dc, .slice M mn mc, .slice Y yn yc] 25)).cell? ⟨w.heap.size, 6, none⟩ = some (.slice Y yn yc) := by rw [World.cell?_alloc_at _ _ _ _ rfl]; rfl
  have HXN := hide hxn
  cases k1 : fewB dn mn yn
  · have K1 := hide k1
    clear k1 h hxn
    go_enter Tryz.func3, Tryz.ntmps3
    go_wp2_with fail
    generalize (w.alloc (.cells #[.int .i64 fr, .int .i64 ev, .int .i64 ct, .int .i64 un, .slice D dn dc, .slice M mn mc, .slice Y yn yc] 25)) = W at *
    refine (known_any _).mono ?_
    rintro e u1 ⟨rfl, hb⟩
    replace HBX := hide (andthen HBX.out hb)
    replace s0 := cell_keep hb s0
    replace s1 := cell_keep hb s1
    replace s2 := cell_keep hb s2
    replace s3 := cell_keep hb s3
    replace s4 := cell_keep hb s4
    replace s5 := cell_keep hb s5
    replace s6 := cell_keep hb s6
    clear hb
    go_wp2_with fail
    refine (ans_is (few_any fr ev ct un D M Y dn dc mn mc yn yc _) K1.out).mono ?_
    rintro e u2 ⟨rfl, hb⟩
    replace HBX := hide (andthen HBX.out hb)
    replace s0 := cell_keep hb s0
    replace s1 := cell_keep hb s1
    replace s2 := cell_keep hb s2
    replace s3 := cell_keep hb s3
    replace s4 := cell_keep hb s4
    replace s5 := cell_keep hb s5
    replace s6 := cell_keep hb s6
    clear hb
    go_wp2_with fail
    go_ret
    exact ⟨rfl, HBX.out⟩
  have HL := hide ((rows_lies5 h k1).keep HBX.out)
  have HX := hide (hx.keep HBX.out)
  have K1 := hide k1
  by_cases hx20 : 20 < xn
  · have gx : (20 : Int) < (xn : Int) := by omega
    clear k1 h hx hxn
    go_enter Tryz.func3, Tryz.ntmps3
    go_wp2_with fail
    generalize (w.alloc (.cells #[.int .i64 fr, .int .i64 ev, .int .i64 ct, .int .i64 un, .slice D dn dc, .slice M mn mc, .slice Y yn yc] 25)) = W at *
    refine (known_any _).mono ?_
    rintro e u1 ⟨rfl, hb⟩
    replace HBX := hide (andthen HBX.out hb)
    replace HL := hide (HL.out.keep hb)
    replace s0 := cell_keep hb s0
    replace s1 := cell_keep hb s1
    replace s2 := cell_keep hb s2
    replace s3 := cell_keep hb s3
    replace s4 := cell_keep hb s4
    replace s5 := cell_keep hb s5
    replace s6 := cell_keep hb s6
    clear hb
    go_wp2_with fail
    refine (ans_is (few_any fr ev ct un D M Y dn dc mn mc yn yc _) K1.out).mono ?_
    rintro e u2 ⟨rfl, hb⟩
    replace HBX := hide (andthen HBX.out hb)
    replace HL := hide (HL.out.keep hb)
    replace s0 := cell_keep hb s0
    replace s1 := cell_keep hb s1
    replace s2 := cell_keep hb s2
    replace s3 := cell_keep hb s3
    replace s4 := cell_keep hb s4
    replace s5 := cell_keep hb s5
    replace s6 := cell_keep hb s6
    clear hb
    go_wp2_with fail
    go_ret
    exact ⟨rfl, HBX.out⟩
  · have gx : (xn : Int) ≤ 20 := by omega
    have hxl : ex.length ≤ 1000 := by omega
    clear k1 h hx hxn
    obtain ⟨⟨l, e⟩, hS⟩ : ∃ x, startsE ⟨fr, ev, ct, un, ds, ms, ys⟩ s ex = x := ⟨_, rfl⟩
    obtain ⟨⟨p, f⟩, hP⟩ : ∃ x, spansE ⟨fr, ev, ct, un, ds, ms, ys⟩ s g ex = x := ⟨_, rfl⟩
    have hll : l.length ≤ 1000 := by have := (R.starts_in ⟨fr, ev, ct, un, ds, ms, ys⟩ s ex).2; rw [hS] at this; exact Nat.le_trans this (by omega)
    have hpl : p.length ≤ 1000 := by have := spans_len ⟨fr, ev, ct, un, ds, ms, ys⟩ s g ex; rw [hP] at this; exact Nat.le_trans this (by omega)
    have HS := hide hS
    have HP := hide hP
    have q1 : (e == e) = true := beq_self_eq_true e
    have q2 : (f == f) = true := beq_self_eq_true f
    clear hS hP
    go_enter Tryz.func3, Tryz.ntmps3
    go_wp2_with fail
    generalize (w.alloc (.cells #[.int .i64 fr, .int .i64 ev, .int .i64 ct, .int .i64 un, .slice D dn dc, .slice M mn mc, .slice Y yn yc] 25)) = W at *
    refine (known_any _).mono ?_
    rintro e u ⟨rfl, hb⟩
    replace HBX := hide (andthen HBX.out hb)
    replace HL := hide (HL.out.keep hb)
    replace s0 := cell_keep hb s0
    replace s1 := cell_keep hb s1
    replace s2 := cell_keep hb s2
    replace s3 := cell_keep hb s3
    replace s4 := cell_keep hb s4
    replace s5 := cell_keep hb s5
    replace s6 := cell_keep hb s6
    replace HX := hide (HX.out.keep hb)
    clear hb
    go_wp2_with fail
    refine (ans_is (few_any fr ev ct un D M Y dn dc mn mc yn yc _) K1.out).mono ?_
    rintro e u ⟨rfl, hb⟩
    replace HBX := hide (andthen HBX.out hb)
    replace HL := hide (HL.out.keep hb)
    replace s0 := cell_keep hb s0
    replace s1 := cell_keep hb s1
    replace s2 := cell_keep hb s2
    replace s3 := cell_keep hb s3
    replace s4 := cell_keep hb s4
    replace s5 := cell_keep hb s5
    replace s6 := cell_keep hb s6
    replace HX := hide (HX.out.keep hb)
    clear hb
    go_wp2_with fail
    refine (starts_code fr ev ct un D M Y dn dc mn mc yn yc ds ms ys s X xn xc ex _ HL.out HX.out HXN.out hxl).mono ?_
    rintro e u ⟨v1, rfl, hown, hb⟩
    rw [HS.out] at hown ⊢
    obtain ⟨A1, c1, rfl, hA1⟩ := hown.row
    have HA1 := hide hA1
    replace HBX := hide (andthen HBX.out hb)
    replace HL := hide (HL.out.keep hb)
    replace s0 := cell_keep hb s0
    replace s1 := cell_keep hb s1
    replace s2 := cell_keep hb s2
    replace s3 := cell_keep hb s3
    replace s4 := cell_keep hb s4
    replace s5 := cell_keep hb s5
    replace s6 := cell_keep hb s6
    replace HX := hide (HX.out.keep hb)
    clear hb hown hA1
    go_wp2_with fail
    refine (R.starts_any fr ev ct un D M Y dn dc mn mc yn yc ds ms ys s X xn xc ex _ HL.out HX.out HXN.out hxl).mono ?_
    rintro e u ⟨v2, rfl, hown, hb⟩
    rw [HS.out] at hown ⊢
    obtain ⟨A2, c2, rfl, hA2⟩ := hown.row
    have HA2 := hide hA2
    replace HBX := hide (andthen HBX.out hb)
    replace HL := hide (HL.out.keep hb)
    replace s0 := cell_keep hb s0
    replace s1 := cell_keep hb s1
    replace s2 := cell_keep hb s2
    replace s3 := cell_keep hb s3
    replace s4 := cell_keep hb s4
    replace s5 := cell_keep hb s5
    replace s6 := cell_keep hb s6
    replace HX := hide (HX.out.keep hb)
    replace HA1 := hide (HA1.out.keep hb)
    clear hb hown hA2
    go_wp2_with fail
    refine (spans_code fr ev ct un D M Y dn dc mn mc yn yc ds ms ys s g X xn xc ex _ HL.out HX.out HXN.out hxl).mono ?_
    rintro e u ⟨v3, rfl, hown, hb⟩
    rw [HP.out] at hown ⊢
    obtain ⟨A3, c3, rfl, hA3⟩ := hown.row
    have HA3 := hide hA3
    replace HBX := hide (andthen HBX.out hb)
    replace HL := hide (HL.out.keep hb)
    replace s0 := cell_keep hb s0
    replace s1 := cell_keep hb s1
    replace s2 := cell_keep hb s2
    replace s3 := cell_keep hb s3
    replace s4 := cell_keep hb s4
    replace s5 := cell_keep hb s5
    replace s6 := cell_keep hb s6
    replace HX := hide (HX.out.keep hb)
    replace HA1 := hide (HA1.out.keep hb)
    replace HA2 := hide (HA2.out.keep hb)
    clear hb hown hA3
    go_wp2_with fail
    refine (R.spans_any fr ev ct un D M Y dn dc mn mc yn yc ds ms ys s g X xn xc ex _ HL.out HX.out HXN.out hxl).mono ?_
    rintro e u ⟨v4, rfl, hown, hb⟩
    rw [HP.out] at hown ⊢
    obtain ⟨A4, c4, rfl, hA4⟩ := hown.row
    have HA4 := hide hA4
    replace HBX := hide (andthen HBX.out hb)
    replace HL := hide (HL.out.keep hb)
    replace s0 := cell_keep hb s0
    replace s1 := cell_keep hb s1
    replace s2 := cell_keep hb s2
    replace s3 := cell_keep hb s3
    replace s4 := cell_keep hb s4
    replace s5 := cell_keep hb s5
    replace s6 := cell_keep hb s6
    replace HX := hide (HX.out.keep hb)
    replace HA1 := hide (HA1.out.keep hb)
    replace HA2 := hide (HA2.out.keep hb)
    replace HA3 := hide (HA3.out.keep hb)
    clear hb hown hA4
    go_wp2_with fail
    refine (alike_any A1 A2 _ _ c1 c2 l _ HA1.out HA2.out rfl rfl hll).mono ?_
    rintro e u ⟨rfl, hb⟩
    replace HBX := hide (andthen HBX.out hb)
    replace HL := hide (HL.out.keep hb)
    replace s0 := cell_keep hb s0
    replace s1 := cell_keep hb s1
    replace s2 := cell_keep hb s2
    replace s3 := cell_keep hb s3
    replace s4 := cell_keep hb s4
    replace s5 := cell_keep hb s5
    replace s6 := cell_keep hb s6
    replace HX := hide (HX.out.keep hb)
    replace HA3 := hide (HA3.out.keep hb)
    replace HA4 := hide (HA4.out.keep hb)
    clear hb
    go_wp2_with fail
    refine (sameS A3 A4 c3 c4 p _ HA3.out HA4.out hpl).mono ?_
    rintro e u ⟨rfl, hb⟩
    replace HBX := hide (andthen HBX.out hb)
    clear hb
    go_wp2_with fail
    go_ret
    exact ⟨rfl, HBX.out⟩

end Go.Proofs.YtdmplojfidkipaaGreat

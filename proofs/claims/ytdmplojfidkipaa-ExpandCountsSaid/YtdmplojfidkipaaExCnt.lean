/- ExpandCounts walked. Written by recipes/ex11.py. -/
import Derived.Test.YtdmplojfidkipaaExK
import Derived.Test.YtdmplojfidkipaaDaTell
import Derived.Test.YtdmplojfidkipaaExMathG
import Derived.Test.YtdmplojfidkipaaRuU
namespace Go.Proofs.Ytdmplojfidkipaa
open Go.RowKit Rul Go.Sort Spn

theorem cell_far {W : World} {b o X k : Nat} {v u : Value} (hne : b ≠ X) (h : W.cell? ⟨b, o, none⟩ = some u) : (W.setCell ⟨X, k, none⟩ v).cell? ⟨b, o, none⟩ = some u :=
  (World.cell?_setCell_other _ _ _ _ (by intro hc; injection hc with hc1 _; exact hne hc1.symm)).trans h
/-- two rules in blocks of their own. -/
theorem bq_two (U : World) (a0 a1 a2 a3 a4 a5 a6 b0 b1 b2 b3 b4 b5 b6 : Value) (t : TypeId) :
    Bq ((U.alloc (.cells #[a0, a1, a2, a3, a4, a5, a6] t)).alloc (.cells #[b0, b1, b2, b3, b4, b5, b6] t)).drew U.heap.size a0 a1 a2 a3 a4 a5 a6 ∧ Bq ((U.alloc (.cells #[a0, a1, a2, a3, a4, a5, a6] t)).alloc (.cells #[b0, b1, b2, b3, b4, b5, b6] t)).drew (U.heap.size + 1) b0 b1 b2 b3 b4 b5 b6 ∧ Below U.heap.size U ((U.alloc (.cells #[a0, a1, a2, a3, a4, a5, a6] t)).alloc (.cells #[b0, b1, b2, b3, b4, b5, b6] t)).drew := by
  have h1 := bq_new U a0 a1 a2 a3 a4 a5 a6 t
  have h2 := bq_new (U.alloc (.cells #[a0, a1, a2, a3, a4, a5, a6] t)) b0 b1 b2 b3 b4 b5 b6 t
  have e : (U.alloc (.cells #[a0, a1, a2, a3, a4, a5, a6] t)).heap.size = U.heap.size + 1 := by simp
  rw [e] at h2
  refine ⟨h1.keep (B := U.heap.size + 1) (e ▸ (more (start _) _).drew) (Nat.lt_succ_self _), h2.keep (B := U.heap.size + 2) ?_ (Nat.lt_succ_self _), (more (more (start U) _) _).drew⟩
  exact (Below.refl _ _).drew
set_option maxRecDepth 100000 in
set_option maxHeartbeats 16000000 in
theorem counts6_any (fr ev ct un : Int) (D M Y : Option Addr) (dn dc mn mc yn yc : Nat) (ds : List Wd) (ms ys : List Int) (x n : Int) (w : World) (h : (dn = ds.length ∧ ds.length ≤ maxLen ∧ RowD w D ds) ∧ (mn = ms.length ∧ ms.length ≤ maxLen ∧ RowI w M ms) ∧ (yn = ys.length ∧ ys.length ≤ maxLen ∧ RowI w Y ys)) (x0 : 0 ≤ x) (_x1 : x ≤ 4294967295) (n0 : 0 ≤ n) (_n1 : n ≤ 255) :
    Calls Try.prog 4 #[.agg #[.int .i64 fr, .int .i64 ev, .int .i64 ct, .int .i64 un, .slice D dn dc, .slice M mn mc, .slice Y yn yc], .int .u32 x, .int .u8 n] w (Ans w (.bool true)) := by
  have t1 : x.tmod 52596000 = x % 52596000 := Int.tmod_eq_emod_of_nonneg (by omega)
  have t2 : n.tmod 20 = n % 20 := Int.tmod_eq_emod_of_nonneg (by omega)
  obtain ⟨s, hs⟩ : ∃ s, x % 52596000 = s := ⟨_, rfl⟩
  obtain ⟨cN, hc⟩ : ∃ cN : Nat, n % 20 + 2 = (cN : Int) := ⟨(n % 20 + 2).toNat, by omega⟩
  have HBX := hide (more (start w) (.cells #[.int .i64 fr, .int .i64 ev, .int .i64 ct, .int .i64 un, .slice D dn dc, .slice M mn mc, .slice Y yn yc] 25))
  have s0 : (w.alloc (.cells #[.int .i64 fr, .int .i64 ev, .int .i64 ct, .int .i64 un, .slice D dn dc, .slice M mn mc, .slice Y yn yc] 25)).cell? ⟨w.heap.size, 0, none⟩ = some (.int .i64 fr) := by rw [World.cell?_alloc_at _ _ _ _ rfl]; rfl
  have s1 : (w.alloc (.cells #[.int .i64 fr, .int .i64 ev, .int .i64 ct, .int .i64 un, .slice D dn dc, .slice M mn mc, .slice Y yn yc] 25)).cell? ⟨w.heap.size, 1, none⟩ = some (.int .i64 ev) := by rw [World.cell?_alloc_at _ _ _ _ rfl]; rfl
  have s2 : (w.alloc (.cells #[.int .i64 fr, .int .i64 ev, .int .i64 ct, .int .i64 un, .slice D dn dc, .slice M mn mc, .slice Y yn yc] 25)).cell? ⟨w.heap.size, 2, none⟩ = some (.int .i64 ct) := by rw [World.cell?_alloc_at _ _ _ _ rfl]; rfl
  have s3 : (w.alloc (.cells #[.int .i64 fr, .int .i64 ev, .int .i64 ct, .int .i64 un, .slice D dn dc, .slice M mn mc, .slice Y yn yc] 25)).cell? ⟨w.heap.size, 3, none⟩ = some (.int .i64 un) := by rw [World.cell?_alloc_at _ _ _ _ rfl]; rfl
  have s4 : (w.alloc (.cells #[.int .i64 fr, .int .i64 ev, .int .i64 ct, .int .i64 un, .slice D dn dc, .slice M mn mc, .slice Y yn yc] 25)).cell? ⟨w.heap.size, 4, none⟩ = some (.slice D dn dc) := by rw [World.cell?_alloc_at _ _ _ _ rfl]; rfl
  have s5 : (w.alloc (.cells #[.int .i64 fr, .int .i64 ev, .int .i64 ct, .int .i64 un, .slice D dn dc, .slice M mn mc, .slice Y yn yc] 25)).cell? ⟨w.heap.size, 5, none⟩ = some (.slice M mn mc) := by rw [World.cell?_alloc_at _ _ _ _ rfl]; rfl
  have s6 : (w.alloc (.cells #[.int .i64 fr, .int .i64 ev, .int .i64 ct, .int .i64 un, .slice D dn dc, .slice M mn mc, .slice Y yn yc] 25)).cell? ⟨w.heap.size, 6, none⟩ = some (.slice Y yn yc) := by rw [World.cell?_alloc_at _ _ _ _ rfl]; rfl
  cases k1 : fewB dn mn yn
  · have K1 := hide k1
    clear k1 h
    go_enter Try.func4, Try.ntmps4
    go_wp2_with fail
    generalize (w.alloc (.cells #[.int .i64 fr, .int .i64 ev, .int .i64 ct, .int .i64 un, .slice D dn dc, .slice M mn mc, .slice Y yn yc] 25)) = W at *
    refine (known_any _).mono ?_
    rintro e u1 ⟨rfl, hb⟩
    replace HBX := hide (andthen HBX.out hb)
    replace s0 := cell_keep hb s0
    replace s1 := cell_keep hb s1
    replace s2 := cell_keep hb s2
    replace s3 := cell_keep hb s3
    replace s4 := cell_keep hb s4
    replace s5 := cell_keep hb s5
    replace s6 := cell_keep hb s6
    clear hb
    go_wp2_with fail
    refine (ans_is (few_any fr ev ct un D M Y dn dc mn mc yn yc _) K1.out).mono ?_
    rintro e u2 ⟨rfl, hb⟩
    replace HBX := hide (andthen HBX.out hb)
    replace s0 := cell_keep hb s0
    replace s1 := cell_keep hb s1
    replace s2 := cell_keep hb s2
    replace s3 := cell_keep hb s3
    replace s4 := cell_keep hb s4
    replace s5 := cell_keep hb s5
    replace s6 := cell_keep hb s6
    clear hb
    go_wp2_with fail
    go_ret
    exact ⟨rfl, HBX.out⟩
  have HL := hide ((rows_lies5 h k1).keep HBX.out)
  have K1 := hide k1
  clear k1 h
  cases hi : isB ⟨fr, ev, ct, un, ds, ms, ys⟩
  · have HI := hide hi
    clear hi
    go_enter Try.func4, Try.ntmps4
    go_wp2_with fail
    generalize (w.alloc (.cells #[.int .i64 fr, .int .i64 ev, .int .i64 ct, .int .i64 un, .slice D dn dc, .slice M mn mc, .slice Y yn yc] 25)) = W at *
    refine (known_any _).mono ?_
    rintro e u1 ⟨rfl, hb⟩
    replace HBX := hide (andthen HBX.out hb)
    replace HL := hide (HL.out.keep hb)
    replace s0 := cell_keep hb s0
    replace s1 := cell_keep hb s1
    replace s2 := cell_keep hb s2
    replace s3 := cell_keep hb s3
    replace s4 := cell_keep hb s4
    replace s5 := cell_keep hb s5
    replace s6 := cell_keep hb s6
    clear hb
    go_wp2_with fail
    refine (ans_is (few_any fr ev ct un D M Y dn dc mn mc yn yc _) K1.out).mono ?_
    rintro e u2 ⟨rfl, hb⟩
    replace HBX := hide (andthen HBX.out hb)
    replace HL := hide (HL.out.keep hb)
    replace s0 := cell_keep hb s0
    replace s1 := cell_keep hb s1
    replace s2 := cell_keep hb s2
    replace s3 := cell_keep hb s3
    replace s4 := cell_keep hb s4
    replace s5 := cell_keep hb s5
    replace s6 := cell_keep hb s6
    clear hb
    go_wp2_with fail
    refine (ans_is (R.is_any fr ev ct un D M Y dn dc mn mc yn yc ds ms ys _ HL.out) HI.out).mono ?_
    rintro e u3 ⟨rfl, hb⟩
    replace HBX := hide (andthen HBX.out hb)
    replace HL := hide (HL.out.keep hb)
    replace s0 := cell_keep hb s0
    replace s1 := cell_keep hb s1
    replace s2 := cell_keep hb s2
    replace s3 := cell_keep hb s3
    replace s4 := cell_keep hb s4
    replace s5 := cell_keep hb s5
    replace s6 := cell_keep hb s6
    clear hb
    go_wp2_with fail
    go_ret
    exact ⟨rfl, HBX.out⟩
  by_cases h0 : fr = 0
  · have HI := hide hi
    have f0 : (fr == 0) = true := by rw [h0]; rfl
    clear hi h0
    go_enter Try.func4, Try.ntmps4
    go_wp2_with fail
    generalize (w.alloc (.cells #[.int .i64 fr, .int .i64 ev, .int .i64 ct, .int .i64 un, .slice D dn dc, .slice M mn mc, .slice Y yn yc] 25)) = W at *
    refine (known_any _).mono ?_
    rintro e u1 ⟨rfl, hb⟩
    replace HBX := hide (andthen HBX.out hb)
    replace HL := hide (HL.out.keep hb)
    replace s0 := cell_keep hb s0
    replace s1 := cell_keep hb s1
    replace s2 := cell_keep hb s2
    replace s3 := cell_keep hb s3
    replace s4 := cell_keep hb s4
    replace s5 := cell_keep hb s5
    replace s6 := cell_keep hb s6
    clear hb
    go_wp2_with fail
    refine (ans_is (few_any fr ev ct un D M Y dn dc mn mc yn yc _) K1.out).mono ?_
    rintro e u2 ⟨rfl, hb⟩
    replace HBX := hide (andthen HBX.out hb)
    replace HL := hide (HL.out.keep hb)
    replace s0 := cell_keep hb s0
    replace s1 := cell_keep hb s1
    replace s2 := cell_keep hb s2
    replace s3 := cell_keep hb s3
    replace s4 := cell_keep hb s4
    replace s5 := cell_keep hb s5
    replace s6 := cell_keep hb s6
    clear hb
    go_wp2_with fail
    refine (ans_is (R.is_any fr ev ct un D M Y dn dc mn mc yn yc ds ms ys _ HL.out) HI.out).mono ?_
    rintro e u3 ⟨rfl, hb⟩
    replace HBX := hide (andthen HBX.out hb)
    replace HL := hide (HL.out.keep hb)
    replace s0 := cell_keep hb s0
    replace s1 := cell_keep hb s1
    replace s2 := cell_keep hb s2
    replace s3 := cell_keep hb s3
    replace s4 := cell_keep hb s4
    replace s5 := cell_keep hb s5
    replace s6 := cell_keep hb s6
    clear hb
    go_wp2_with fail
    go_ret
    exact ⟨rfl, HBX.out⟩
  have HI := hide hi
  have f0 : (fr == 0) = false := by rw [beq_eq_false_iff_ne]; exact h0
  obtain ⟨l, hl, ha, hb, hlast⟩ := counts_law (R.isB_rec _ hi h0) s cN (by omega) (by omega) (by omega) (by omega)
  have hcN1 : 2 ≤ cN := by omega
  have hcN2 : cN ≤ 21 := by omega
  by_cases hz : l.length = 0
  · rw [if_pos hz] at ha hb
    have HA := hide ha
    have HB := hide hb
    clear hi h0 ha hb hlast hz
    go_enter Try.func4, Try.ntmps4
    go_wp2_with fail
    generalize (w.alloc (.cells #[.int .i64 fr, .int .i64 ev, .int .i64 ct, .int .i64 un, .slice D dn dc, .slice M mn mc, .slice Y yn yc] 25)) = W at *
    refine (known_any _).mono ?_
    rintro e u1 ⟨rfl, hb⟩
    replace HBX := hide (andthen HBX.out hb)
    replace HL := hide (HL.out.keep hb)
    replace s0 := cell_keep hb s0
    replace s1 := cell_keep hb s1
    replace s2 := cell_keep hb s2
    replace s3 := cell_keep hb s3
    replace s4 := cell_keep hb s4
    replace s5 := cell_keep hb s5
    replace s6 := cell_keep hb s6
    clear hb
    go_wp2_with fail
    refine (ans_is (few_any fr ev ct un D M Y dn dc mn mc yn yc _) K1.out).mono ?_
    rintro e u2 ⟨rfl, hb⟩
    replace HBX := hide (andthen HBX.out hb)
    replace HL := hide (HL.out.keep hb)
    replace s0 := cell_keep hb s0
    replace s1 := cell_keep hb s1
    replace s2 := cell_keep hb s2
    replace s3 := cell_keep hb s3
    replace s4 := cell_keep hb s4
    replace s5 := cell_keep hb s5
    replace s6 := cell_keep hb s6
    clear hb
    go_wp2_with fail
    refine (ans_is (R.is_any fr ev ct un D M Y dn dc mn mc yn yc ds ms ys _ HL.out) HI.out).mono ?_
    rintro e u3 ⟨rfl, hb⟩
    replace HBX := hide (andthen HBX.out hb)
    replace HL := hide (HL.out.keep hb)
    replace s0 := cell_keep hb s0
    replace s1 := cell_keep hb s1
    replace s2 := cell_keep hb s2
    replace s3 := cell_keep hb s3
    replace s4 := cell_keep hb s4
    replace s5 := cell_keep hb s5
    replace s6 := cell_keep hb s6
    clear hb
    go_wp2_with fail
    generalize u3 = U at *
    have HS7 := hide (And.intro s0 (And.intro s1 (And.intro s2 (And.intro s3 (And.intro s4 (And.intro s5 s6))))))
    clear s0 s1 s2 s3 s4 s5 s6
    go_region_held3 (fun w' => w'.cell? ⟨w.heap.size, 0, none⟩ = some (.int .i64 fr) ∧ w'.cell? ⟨w.heap.size, 1, none⟩ = some (.int .i64 ev) ∧ w'.cell? ⟨w.heap.size, 2, none⟩ = some (.int .i64 ct) ∧ w'.cell? ⟨w.heap.size, 3, none⟩ = some (.int .i64 un) ∧ w'.cell? ⟨w.heap.size, 4, none⟩ = some (.slice D dn dc) ∧ w'.cell? ⟨w.heap.size, 5, none⟩ = some (.slice M mn mc) ∧ w'.cell? ⟨w.heap.size, 6, none⟩ = some (.slice Y yn yc)) (first | with_reducible exact keep7d (start _).drew HS7.out | with_reducible exact keep7d (more (start _) _).drew HS7.out | with_reducible exact keep7d (more (more (start _) _) _).drew HS7.out) (fail)
    · go_wp2_with fail
      obtain ⟨qa, qb, hbv⟩ := bq_two U (.int .i64 fr) (.int .i64 ev) (.int .i64 cN) (.int .i64 (-1)) (.slice D dn dc) (.slice M mn mc) (.slice Y yn yc) (.int .i64 fr) (.int .i64 ev) (.int .i64 ((cN : Int) - 1)) (.int .i64 (-1)) (.slice D dn dc) (.slice M mn mc) (.slice Y yn yc) 25
      generalize ((U.alloc (.cells #[.int .i64 fr, .int .i64 ev, .int .i64 cN, .int .i64 (-1), .slice D dn dc, .slice M mn mc, .slice Y yn yc] 25)).alloc (.cells #[.int .i64 fr, .int .i64 ev, .int .i64 ((cN : Int) - 1), .int .i64 (-1), .slice D dn dc, .slice M mn mc, .slice Y yn yc] 25)).drew = V at *
      have HLV := hide (HL.out.keep hbv)
      have hx9 : U.heap.size ≤ U.heap.size + 1 := by omega
      have hx9v : U.heap.size + 1 < V.heap.size := qb.lt
      have HV := hide (hbv)
      have a2 := qa.c2
      have b0 := qb.c0
      have b1 := qb.c1
      have b2 := qb.c2
      have b3 := qb.c3
      have b4 := qb.c4
      have b5 := qb.c5
      have b6 := qb.c6
      have bf := qb.f
      clear qa qb hbv
      refine (starts_code fr ev cN (-1) D M Y dn dc mn mc yn yc ds ms ys s none 0 0 [] _ HLV.out (RowI.nil _ _) rfl (by simp)).mono ?_
      rintro e u5 ⟨v1, rfl, hown, hb⟩
      rw [HA.out] at hown ⊢
      have HZ9 := hide hx9v
      have HO1 := hide hown
      replace a2 := cell_keep hb a2
      replace b0 := cell_keep hb b0
      replace b1 := cell_keep hb b1
      replace b2 := cell_keep hb b2
      replace b3 := cell_keep hb b3
      replace b4 := cell_keep hb b4
      replace b5 := cell_keep hb b5
      replace b6 := cell_keep hb b6
      replace bf : ∀ i, u5.frozen? ⟨U.heap.size + 1, i, none⟩ = false := fun i => (hb.frozen (p := ⟨U.heap.size + 1, i, none⟩) HZ9.out).trans (bf i)
      replace HV := hide (andthen HV.out hb)
      have hx9u : U.heap.size + 1 < u5.heap.size := Nat.lt_of_lt_of_le HZ9.out hb.size
      clear hb hown
      obtain ⟨A1, c1, rfl, _⟩ := HO1.out.row
      go_wp2_with fail
      refine (starts_code fr ev ((cN : Int) - 1) (-1) D M Y dn dc mn mc yn yc ds ms ys s none 0 0 [] _ (HL.out.keep HV.out) (RowI.nil _ _) rfl (by simp)).mono ?_
      rintro e u6 ⟨v2, rfl, hown, hb⟩
      rw [HB.out] at hown ⊢
      obtain ⟨A2, c2, rfl, _⟩ := hown.row
      replace HV := hide (andthen HV.out hb)
      clear hb hown
      go_wp2_with fail
      go_ret
      exact ⟨rfl, andthen HBX.out HV.out⟩
    · go_wp2_with fail
      obtain ⟨qb, qa, hbv⟩ := bq_two U (.int .i64 fr) (.int .i64 ev) (.int .i64 ((cN : Int) - 1)) (.int .i64 (-1)) (.slice D dn dc) (.slice M mn mc) (.slice Y yn yc) (.int .i64 fr) (.int .i64 ev) (.int .i64 cN) (.int .i64 (-1)) (.slice D dn dc) (.slice M mn mc) (.slice Y yn yc) 25
      generalize ((U.alloc (.cells #[.int .i64 fr, .int .i64 ev, .int .i64 ((cN : Int) - 1), .int .i64 (-1), .slice D dn dc, .slice M mn mc, .slice Y yn yc] 25)).alloc (.cells #[.int .i64 fr, .int .i64 ev, .int .i64 cN, .int .i64 (-1), .slice D dn dc, .slice M mn mc, .slice Y yn yc] 25)).drew = V at *
      have HLV := hide (HL.out.keep hbv)
      have hx9 : U.heap.size ≤ U.heap.size := by omega
      have hx9v : U.heap.size < V.heap.size := qb.lt
      have HV := hide (hbv)
      have a2 := qa.c2
      have b0 := qb.c0
      have b1 := qb.c1
      have b2 := qb.c2
      have b3 := qb.c3
      have b4 := qb.c4
      have b5 := qb.c5
      have b6 := qb.c6
      have bf := qb.f
      clear qa qb hbv
      refine (starts_code fr ev cN (-1) D M Y dn dc mn mc yn yc ds ms ys s none 0 0 [] _ HLV.out (RowI.nil _ _) rfl (by simp)).mono ?_
      rintro e u5 ⟨v1, rfl, hown, hb⟩
      rw [HA.out] at hown ⊢
      have HZ9 := hide hx9v
      have HO1 := hide hown
      replace a2 := cell_keep hb a2
      replace b0 := cell_keep hb b0
      replace b1 := cell_keep hb b1
      replace b2 := cell_keep hb b2
      replace b3 := cell_keep hb b3
      replace b4 := cell_keep hb b4
      replace b5 := cell_keep hb b5
      replace b6 := cell_keep hb b6
      replace bf : ∀ i, u5.frozen? ⟨U.heap.size, i, none⟩ = false := fun i => (hb.frozen (p := ⟨U.heap.size, i, none⟩) HZ9.out).trans (bf i)
      replace HV := hide (andthen HV.out hb)
      have hx9u : U.heap.size < u5.heap.size := Nat.lt_of_lt_of_le HZ9.out hb.size
      clear hb hown
      obtain ⟨A1, c1, rfl, _⟩ := HO1.out.row
      go_wp2_with fail
      refine (starts_code fr ev ((cN : Int) - 1) (-1) D M Y dn dc mn mc yn yc ds ms ys s none 0 0 [] _ (HL.out.keep HV.out) (RowI.nil _ _) rfl (by simp)).mono ?_
      rintro e u6 ⟨v2, rfl, hown, hb⟩
      rw [HB.out] at hown ⊢
      obtain ⟨A2, c2, rfl, _⟩ := hown.row
      replace HV := hide (andthen HV.out hb)
      clear hb hown
      go_wp2_with fail
      go_ret
      exact ⟨rfl, andthen HBX.out HV.out⟩
  · rw [if_neg hz] at ha hb
    have HA := hide ha
    have HB := hide hb
    have HZ := hide hlast
    obtain ⟨mN, hmN⟩ : ∃ mN, (l.take (cN - 1)).length = mN := ⟨_, rfl⟩
    have hmn := hmN
    rw [List.length_take] at hmn
    have HMN := hide hmN
    clear hi h0 ha hb hlast hmN
    have hml : (mN : Int) ≤ (l.length : Int) := by omega
    have htk : l.take mN = l.take (cN - 1) := by rw [List.take_eq_take_iff]; omega
    have HTK := hide htk
    have gl2 : (l.length : Int) ≤ (cN : Int) := by omega
    obtain ⟨iN, hiN⟩ : ∃ iN : Nat, (l.length : Int) - 1 = (iN : Int) := ⟨l.length - 1, by omega⟩
    have HIN := hide hiN
    have hlz : 1 ≤ l.length := by omega
    clear htk hiN hz
    by_cases hle : (l.length : Int) ≤ (cN : Int) - 1
    · have gm : ((mN : Int) != (l.length : Int)) = false := by rw [bne_eq_false_iff_eq]; omega
      clear hmn
      go_enter Try.func4, Try.ntmps4
      go_wp2_with fail
      generalize (w.alloc (.cells #[.int .i64 fr, .int .i64 ev, .int .i64 ct, .int .i64 un, .slice D dn dc, .slice M mn mc, .slice Y yn yc] 25)) = W at *
      refine (known_any _).mono ?_
      rintro e u1 ⟨rfl, hb⟩
      replace HBX := hide (andthen HBX.out hb)
      replace HL := hide (HL.out.keep hb)
      replace s0 := cell_keep hb s0
      replace s1 := cell_keep hb s1
      replace s2 := cell_keep hb s2
      replace s3 := cell_keep hb s3
      replace s4 := cell_keep hb s4
      replace s5 := cell_keep hb s5
      replace s6 := cell_keep hb s6
      clear hb
      go_wp2_with fail
      refine (ans_is (few_any fr ev ct un D M Y dn dc mn mc yn yc _) K1.out).mono ?_
      rintro e u2 ⟨rfl, hb⟩
      replace HBX := hide (andthen HBX.out hb)
      replace HL := hide (HL.out.keep hb)
      replace s0 := cell_keep hb s0
      replace s1 := cell_keep hb s1
      replace s2 := cell_keep hb s2
      replace s3 := cell_keep hb s3
      replace s4 := cell_keep hb s4
      replace s5 := cell_keep hb s5
      replace s6 := cell_keep hb s6
      clear hb
      go_wp2_with fail
      refine (ans_is (R.is_any fr ev ct un D M Y dn dc mn mc yn yc ds ms ys _ HL.out) HI.out).mono ?_
      rintro e u3 ⟨rfl, hb⟩
      replace HBX := hide (andthen HBX.out hb)
      replace HL := hide (HL.out.keep hb)
      replace s0 := cell_keep hb s0
      replace s1 := cell_keep hb s1
      replace s2 := cell_keep hb s2
      replace s3 := cell_keep hb s3
      replace s4 := cell_keep hb s4
      replace s5 := cell_keep hb s5
      replace s6 := cell_keep hb s6
      clear hb
      go_wp2_with fail
      generalize u3 = U at *
      have HS7 := hide (And.intro s0 (And.intro s1 (And.intro s2 (And.intro s3 (And.intro s4 (And.intro s5 s6))))))
      clear s0 s1 s2 s3 s4 s5 s6
      go_region_held3 (fun w' => w'.cell? ⟨w.heap.size, 0, none⟩ = some (.int .i64 fr) ∧ w'.cell? ⟨w.heap.size, 1, none⟩ = some (.int .i64 ev) ∧ w'.cell? ⟨w.heap.size, 2, none⟩ = some (.int .i64 ct) ∧ w'.cell? ⟨w.heap.size, 3, none⟩ = some (.int .i64 un) ∧ w'.cell? ⟨w.heap.size, 4, none⟩ = some (.slice D dn dc) ∧ w'.cell? ⟨w.heap.size, 5, none⟩ = some (.slice M mn mc) ∧ w'.cell? ⟨w.heap.size, 6, none⟩ = some (.slice Y yn yc)) (first | with_reducible exact keep7d (start _).drew HS7.out | with_reducible exact keep7d (more (start _) _).drew HS7.out | with_reducible exact keep7d (more (more (start _) _) _).drew HS7.out) (fail)
      · go_wp2_with fail
        obtain ⟨qa, qb, hbv⟩ := bq_two U (.int .i64 fr) (.int .i64 ev) (.int .i64 cN) (.int .i64 (-1)) (.slice D dn dc) (.slice M mn mc) (.slice Y yn yc) (.int .i64 fr) (.int .i64 ev) (.int .i64 ((cN : Int) - 1)) (.int .i64 (-1)) (.slice D dn dc) (.slice M mn mc) (.slice Y yn yc) 25
        generalize ((U.alloc (.cells #[.int .i64 fr, .int .i64 ev, .int .i64 cN, .int .i64 (-1), .slice D dn dc, .slice M mn mc, .slice Y yn yc] 25)).alloc (.cells #[.int .i64 fr, .int .i64 ev, .int .i64 ((cN : Int) - 1), .int .i64 (-1), .slice D dn dc, .slice M mn mc, .slice Y yn yc] 25)).drew = V at *
        have HLV := hide (HL.out.keep hbv)
        have hx9 : U.heap.size ≤ U.heap.size + 1 := by omega
        have hx9v : U.heap.size + 1 < V.heap.size := qb.lt
        have HV := hide (hbv)
        have a2 := qa.c2
        have b0 := qb.c0
        have b1 := qb.c1
        have b2 := qb.c2
        have b3 := qb.c3
        have b4 := qb.c4
        have b5 := qb.c5
        have b6 := qb.c6
        have bf := qb.f
        clear qa qb hbv
        refine (starts_code fr ev cN (-1) D M Y dn dc mn mc yn yc ds ms ys s none 0 0 [] _ HLV.out (RowI.nil _ _) rfl (by simp)).mono ?_
        rintro e u5 ⟨v1, rfl, hown, hb⟩
        rw [HA.out] at hown ⊢
        have HZ9 := hide hx9v
        have HO1 := hide hown
        replace a2 := cell_keep hb a2
        replace b0 := cell_keep hb b0
        replace b1 := cell_keep hb b1
        replace b2 := cell_keep hb b2
        replace b3 := cell_keep hb b3
        replace b4 := cell_keep hb b4
        replace b5 := cell_keep hb b5
        replace b6 := cell_keep hb b6
        replace bf : ∀ i, u5.frozen? ⟨U.heap.size + 1, i, none⟩ = false := fun i => (hb.frozen (p := ⟨U.heap.size + 1, i, none⟩) HZ9.out).trans (bf i)
        replace HV := hide (andthen HV.out hb)
        have hx9u : U.heap.size + 1 < u5.heap.size := Nat.lt_of_lt_of_le HZ9.out hb.size
        clear hb hown
        obtain ⟨A1, c1, rfl, _⟩ := HO1.out.row
        go_wp2_with fail
        refine (starts_code fr ev ((cN : Int) - 1) (-1) D M Y dn dc mn mc yn yc ds ms ys s none 0 0 [] _ (HL.out.keep HV.out) (RowI.nil _ _) rfl (by simp)).mono ?_
        rintro e u6 ⟨v2, rfl, hown, hb⟩
        rw [HB.out] at hown ⊢
        have HO2 := hide (OwnI.low hown (Nat.le_of_lt hx9u))
        replace HO1 := hide (HO1.out.keep hb)
        replace a2 := cell_keep hb a2
        replace b0 := cell_keep hb b0
        replace b1 := cell_keep hb b1
        replace b2 := cell_keep hb b2
        replace b3 := cell_keep hb b3
        replace b4 := cell_keep hb b4
        replace b5 := cell_keep hb b5
        replace b6 := cell_keep hb b6
        replace bf : ∀ i, u6.frozen? ⟨U.heap.size + 1, i, none⟩ = false := fun i => (hb.frozen (p := ⟨U.heap.size + 1, i, none⟩) hx9u).trans (bf i)
        replace HV := hide (andthen HV.out hb)
        have hx9w : U.heap.size + 1 < u6.heap.size := Nat.lt_of_lt_of_le hx9u hb.size
        clear hb hown
        obtain ⟨A2, c2, hv2, hrow2⟩ := HO2.out.row
        rw [HMN.out] at hv2
        subst hv2
        obtain ⟨A1', c1', hv1, hrow1, _, hcap⟩ := HO1.out.row0
        injection hv1 with g1 g2 g3
        clear g2
        subst g1 g3
        have HR1 := hide hrow1
        have HR2 := hide hrow2
        obtain ⟨A3, c3, hv3, hrow3⟩ := (OwnI.cut HO1.out (m := mN) (by omega)).row
        injection hv3 with g1 g2 g3
        clear g2 g3
        subst g1
        rw [HTK.out] at hrow3
        have HR3 := hide hrow3
        clear hrow1 hrow2 hrow3
        go_wp2_with fail
        refine (alike_any A2 A1 mN mN c2 c1 (l.take (cN - 1)) _ HR2.out HR3.out HMN.out.symm HMN.out.symm (by rw [HMN.out]; omega)).mono ?_
        rintro e u7 ⟨rfl, hb⟩
        replace HO1 := hide (HO1.out.keep hb)
        replace HR1 := hide (HR1.out.keep hb)
        replace b0 := cell_keep hb b0
        replace b1 := cell_keep hb b1
        replace b2 := cell_keep hb b2
        replace b3 := cell_keep hb b3
        replace b4 := cell_keep hb b4
        replace b5 := cell_keep hb b5
        replace b6 := cell_keep hb b6
        skip
        replace bf : ∀ i, u7.frozen? ⟨U.heap.size + 1, i, none⟩ = false := fun i => (hb.frozen (p := ⟨U.heap.size + 1, i, none⟩) hx9w).trans (bf i)
        replace HV := hide (andthen HV.out hb)
        have hx9y : U.heap.size + 1 < u7.heap.size := Nat.lt_of_lt_of_le hx9w hb.size
        clear hb a2
        obtain ⟨b1, o1, rfl, hb1, hc1⟩ := HR1.out (by intro h0; rw [h0] at hlz; exact absurd hlz (by decide))
        have hil : iN < l.length := by have := HIN.out; omega
        obtain ⟨u, hu⟩ : ∃ u, l[iN] = u := ⟨_, rfl⟩
        have hzz := HZ.out iN hil (by have := HIN.out; omega)
        rw [hu] at hzz
        have HZU := hide hzz.1
        have p1 : u7.cell? ⟨b1, o1 + iN, none⟩ = some (.int .i64 u) := by rw [← hu]; exact hc1 iN hil
        have i0 := HIN.out
        have i1 : (0 : Int) ≤ (iN : Int) := by omega
        have i2 : (iN : Int) < (l.length : Int) := by omega
        have i3 : IntKind.i64.wrap (iN : Int) = (iN : Int) := IntWalk.i64_in _ (by omega)
        have i4 : IntKind.i64.wrap ((l.length : Int) - 1) = (iN : Int) := by rw [i0]; exact i3
        have hne : b1 ≠ U.heap.size + 1 := by have h1 := (HO1.out.lt b1 rfl).1; have h2 := HZ9.out; omega
        clear hzz hu hc1 HZ HR1 HR2 HR3
        go_wp2_with fail
        go_region_held3 (fun w' => w'.cell? ⟨b1, o1 + iN, none⟩ = some (.int .i64 u)) (first | with_reducible exact cell_keep (start _).drew p1 | with_reducible exact cell_keep (start _).drew (cell_far hne p1) | with_reducible exact cell_keep (start _).drew (cell_far hne (cell_far hne p1))) (fail)
        have HN := hide ((Below.setCell (Below.setCell HV.out (p := ⟨U.heap.size + 1, 2, none⟩) hx9 (.int .i64 0)) (p := ⟨U.heap.size + 1, 3, none⟩) hx9 (.int .i64 u)).drew)
        have HO5 := hide (OwnI.keep (ownsRow_setCell_below (ownsRow_setCell_below HO1.out (a := ⟨U.heap.size + 1, 2, none⟩) HZ9.out (.int .i64 0)) (a := ⟨U.heap.size + 1, 3, none⟩) HZ9.out (.int .i64 u)) (start _).drew)
        go_wp2_with fail
        generalize ((u7.setCell ⟨U.heap.size + 1, 2, none⟩ (.int .i64 0)).setCell ⟨U.heap.size + 1, 3, none⟩ (.int .i64 u)).drew = V2 at *
        clear HO1 HV p1
        refine (starts_code fr ev 0 u D M Y dn dc mn mc yn yc ds ms ys s none 0 0 [] _ (HL.out.keep HN.out) (RowI.nil _ _) rfl (by simp)).mono ?_
        rintro e u8 ⟨v3, rfl, hown, hb⟩
        rw [HZU.out] at hown ⊢
        obtain ⟨A4, c4, rfl, hrow4⟩ := hown.row
        have HR4 := hide hrow4
        obtain ⟨A5, c5, hv5, hrow5⟩ := (OwnI.keep HO5.out hb).row
        injection hv5 with g1 g2 g3
        clear g2 g3
        subst g1
        have HR5 := hide hrow5
        replace HN := hide (andthen HN.out hb)
        clear hown hb hrow4 hrow5
        go_wp2_with fail
        refine (alike_any A4 (some ⟨b1, o1, none⟩) _ _ c4 c1 l _ HR4.out HR5.out rfl rfl (by omega)).mono ?_
        rintro e u9 ⟨rfl, hb⟩
        replace HN := hide (andthen HN.out hb)
        clear hb
        go_wp2_with fail
        go_ret
        exact ⟨rfl, andthen HBX.out HN.out⟩
      · go_wp2_with fail
        obtain ⟨qb, qa, hbv⟩ := bq_two U (.int .i64 fr) (.int .i64 ev) (.int .i64 ((cN : Int) - 1)) (.int .i64 (-1)) (.slice D dn dc) (.slice M mn mc) (.slice Y yn yc) (.int .i64 fr) (.int .i64 ev) (.int .i64 cN) (.int .i64 (-1)) (.slice D dn dc) (.slice M mn mc) (.slice Y yn yc) 25
        generalize ((U.alloc (.cells #[.int .i64 fr, .int .i64 ev, .int .i64 ((cN : Int) - 1), .int .i64 (-1), .slice D dn dc, .slice M mn mc, .slice Y yn yc] 25)).alloc (.cells #[.int .i64 fr, .int .i64 ev, .int .i64 cN, .int .i64 (-1), .slice D dn dc, .slice M mn mc, .slice Y yn yc] 25)).drew = V at *
        have HLV := hide (HL.out.keep hbv)
        have hx9 : U.heap.size ≤ U.heap.size := by omega
        have hx9v : U.heap.size < V.heap.size := qb.lt
        have HV := hide (hbv)
        have a2 := qa.c2
        have b0 := qb.c0
        have b1 := qb.c1
        have b2 := qb.c2
        have b3 := qb.c3
        have b4 := qb.c4
        have b5 := qb.c5
        have b6 := qb.c6
        have bf := qb.f
        clear qa qb hbv
        refine (starts_code fr ev cN (-1) D M Y dn dc mn mc yn yc ds ms ys s none 0 0 [] _ HLV.out (RowI.nil _ _) rfl (by simp)).mono ?_
        rintro e u5 ⟨v1, rfl, hown, hb⟩
        rw [HA.out] at hown ⊢
        have HZ9 := hide hx9v
        have HO1 := hide hown
        replace a2 := cell_keep hb a2
        replace b0 := cell_keep hb b0
        replace b1 := cell_keep hb b1
        replace b2 := cell_keep hb b2
        replace b3 := cell_keep hb b3
        replace b4 := cell_keep hb b4
        replace b5 := cell_keep hb b5
        replace b6 := cell_keep hb b6
        replace bf : ∀ i, u5.frozen? ⟨U.heap.size, i, none⟩ = false := fun i => (hb.frozen (p := ⟨U.heap.size, i, none⟩) HZ9.out).trans (bf i)
        replace HV := hide (andthen HV.out hb)
        have hx9u : U.heap.size < u5.heap.size := Nat.lt_of_lt_of_le HZ9.out hb.size
        clear hb hown
        obtain ⟨A1, c1, rfl, _⟩ := HO1.out.row
        go_wp2_with fail
        refine (starts_code fr ev ((cN : Int) - 1) (-1) D M Y dn dc mn mc yn yc ds ms ys s none 0 0 [] _ (HL.out.keep HV.out) (RowI.nil _ _) rfl (by simp)).mono ?_
        rintro e u6 ⟨v2, rfl, hown, hb⟩
        rw [HB.out] at hown ⊢
        have HO2 := hide (OwnI.low hown (Nat.le_of_lt hx9u))
        replace HO1 := hide (HO1.out.keep hb)
        replace a2 := cell_keep hb a2
        replace b0 := cell_keep hb b0
        replace b1 := cell_keep hb b1
        replace b2 := cell_keep hb b2
        replace b3 := cell_keep hb b3
        replace b4 := cell_keep hb b4
        replace b5 := cell_keep hb b5
        replace b6 := cell_keep hb b6
        replace bf : ∀ i, u6.frozen? ⟨U.heap.size, i, none⟩ = false := fun i => (hb.frozen (p := ⟨U.heap.size, i, none⟩) hx9u).trans (bf i)
        replace HV := hide (andthen HV.out hb)
        have hx9w : U.heap.size < u6.heap.size := Nat.lt_of_lt_of_le hx9u hb.size
        clear hb hown
        obtain ⟨A2, c2, hv2, hrow2⟩ := HO2.out.row
        rw [HMN.out] at hv2
        subst hv2
        obtain ⟨A1', c1', hv1, hrow1, _, hcap⟩ := HO1.out.row0
        injection hv1 with g1 g2 g3
        clear g2
        subst g1 g3
        have HR1 := hide hrow1
        have HR2 := hide hrow2
        obtain ⟨A3, c3, hv3, hrow3⟩ := (OwnI.cut HO1.out (m := mN) (by omega)).row
        injection hv3 with g1 g2 g3
        clear g2 g3
        subst g1
        rw [HTK.out] at hrow3
        have HR3 := hide hrow3
        clear hrow1 hrow2 hrow3
        go_wp2_with fail
        refine (alike_any A2 A1 mN mN c2 c1 (l.take (cN - 1)) _ HR2.out HR3.out HMN.out.symm HMN.out.symm (by rw [HMN.out]; omega)).mono ?_
        rintro e u7 ⟨rfl, hb⟩
        replace HO1 := hide (HO1.out.keep hb)
        replace HR1 := hide (HR1.out.keep hb)
        replace b0 := cell_keep hb b0
        replace b1 := cell_keep hb b1
        replace b2 := cell_keep hb b2
        replace b3 := cell_keep hb b3
        replace b4 := cell_keep hb b4
        replace b5 := cell_keep hb b5
        replace b6 := cell_keep hb b6
        skip
        replace bf : ∀ i, u7.frozen? ⟨U.heap.size, i, none⟩ = false := fun i => (hb.frozen (p := ⟨U.heap.size, i, none⟩) hx9w).trans (bf i)
        replace HV := hide (andthen HV.out hb)
        have hx9y : U.heap.size < u7.heap.size := Nat.lt_of_lt_of_le hx9w hb.size
        clear hb a2
        obtain ⟨b1, o1, rfl, hb1, hc1⟩ := HR1.out (by intro h0; rw [h0] at hlz; exact absurd hlz (by decide))
        have hil : iN < l.length := by have := HIN.out; omega
        obtain ⟨u, hu⟩ : ∃ u, l[iN] = u := ⟨_, rfl⟩
        have hzz := HZ.out iN hil (by have := HIN.out; omega)
        rw [hu] at hzz
        have HZU := hide hzz.1
        have p1 : u7.cell? ⟨b1, o1 + iN, none⟩ = some (.int .i64 u) := by rw [← hu]; exact hc1 iN hil
        have i0 := HIN.out
        have i1 : (0 : Int) ≤ (iN : Int) := by omega
        have i2 : (iN : Int) < (l.length : Int) := by omega
        have i3 : IntKind.i64.wrap (iN : Int) = (iN : Int) := IntWalk.i64_in _ (by omega)
        have i4 : IntKind.i64.wrap ((l.length : Int) - 1) = (iN : Int) := by rw [i0]; exact i3
        have hne : b1 ≠ U.heap.size := by have h1 := (HO1.out.lt b1 rfl).1; have h2 := HZ9.out; omega
        clear hzz hu hc1 HZ HR1 HR2 HR3
        go_wp2_with fail
        go_region_held3 (fun w' => w'.cell? ⟨b1, o1 + iN, none⟩ = some (.int .i64 u)) (first | with_reducible exact cell_keep (start _).drew p1 | with_reducible exact cell_keep (start _).drew (cell_far hne p1) | with_reducible exact cell_keep (start _).drew (cell_far hne (cell_far hne p1))) (fail)
        have HN := hide ((Below.setCell (Below.setCell HV.out (p := ⟨U.heap.size, 2, none⟩) hx9 (.int .i64 0)) (p := ⟨U.heap.size, 3, none⟩) hx9 (.int .i64 u)).drew)
        have HO5 := hide (OwnI.keep (ownsRow_setCell_below (ownsRow_setCell_below HO1.out (a := ⟨U.heap.size, 2, none⟩) HZ9.out (.int .i64 0)) (a := ⟨U.heap.size, 3, none⟩) HZ9.out (.int .i64 u)) (start _).drew)
        go_wp2_with fail
        generalize ((u7.setCell ⟨U.heap.size, 2, none⟩ (.int .i64 0)).setCell ⟨U.heap.size, 3, none⟩ (.int .i64 u)).drew = V2 at *
        clear HO1 HV p1
        refine (starts_code fr ev 0 u D M Y dn dc mn mc yn yc ds ms ys s none 0 0 [] _ (HL.out.keep HN.out) (RowI.nil _ _) rfl (by simp)).mono ?_
        rintro e u8 ⟨v3, rfl, hown, hb⟩
        rw [HZU.out] at hown ⊢
        obtain ⟨A4, c4, rfl, hrow4⟩ := hown.row
        have HR4 := hide hrow4
        obtain ⟨A5, c5, hv5, hrow5⟩ := (OwnI.keep HO5.out hb).row
        injection hv5 with g1 g2 g3
        clear g2 g3
        subst g1
        have HR5 := hide hrow5
        replace HN := hide (andthen HN.out hb)
        clear hown hb hrow4 hrow5
        go_wp2_with fail
        refine (alike_any A4 (some ⟨b1, o1, none⟩) _ _ c4 c1 l _ HR4.out HR5.out rfl rfl (by omega)).mono ?_
        rintro e u9 ⟨rfl, hb⟩
        replace HN := hide (andthen HN.out hb)
        clear hb
        go_wp2_with fail
        go_ret
        exact ⟨rfl, andthen HBX.out HN.out⟩
    · have gl : ((cN : Int) - 1) < (l.length : Int) := by omega
      have gm : ((mN : Int) != (cN : Int) - 1) = false := by rw [bne_eq_false_iff_eq]; omega
      clear hmn hle
      go_enter Try.func4, Try.ntmps4
      go_wp2_with fail
      generalize (w.alloc (.cells #[.int .i64 fr, .int .i64 ev, .int .i64 ct, .int .i64 un, .slice D dn dc, .slice M mn mc, .slice Y yn yc] 25)) = W at *
      refine (known_any _).mono ?_
      rintro e u1 ⟨rfl, hb⟩
      replace HBX := hide (andthen HBX.out hb)
      replace HL := hide (HL.out.keep hb)
      replace s0 := cell_keep hb s0
      replace s1 := cell_keep hb s1
      replace s2 := cell_keep hb s2
      replace s3 := cell_keep hb s3
      replace s4 := cell_keep hb s4
      replace s5 := cell_keep hb s5
      replace s6 := cell_keep hb s6
      clear hb
      go_wp2_with fail
      refine (ans_is (few_any fr ev ct un D M Y dn dc mn mc yn yc _) K1.out).mono ?_
      rintro e u2 ⟨rfl, hb⟩
      replace HBX := hide (andthen HBX.out hb)
      replace HL := hide (HL.out.keep hb)
      replace s0 := cell_keep hb s0
      replace s1 := cell_keep hb s1
      replace s2 := cell_keep hb s2
      replace s3 := cell_keep hb s3
      replace s4 := cell_keep hb s4
      replace s5 := cell_keep hb s5
      replace s6 := cell_keep hb s6
      clear hb
      go_wp2_with fail
      refine (ans_is (R.is_any fr ev ct un D M Y dn dc mn mc yn yc ds ms ys _ HL.out) HI.out).mono ?_
      rintro e u3 ⟨rfl, hb⟩
      replace HBX := hide (andthen HBX.out hb)
      replace HL := hide (HL.out.keep hb)
      replace s0 := cell_keep hb s0
      replace s1 := cell_keep hb s1
      replace s2 := cell_keep hb s2
      replace s3 := cell_keep hb s3
      replace s4 := cell_keep hb s4
      replace s5 := cell_keep hb s5
      replace s6 := cell_keep hb s6
      clear hb
      go_wp2_with fail
      generalize u3 = U at *
      have HS7 := hide (And.intro s0 (And.intro s1 (And.intro s2 (And.intro s3 (And.intro s4 (And.intro s5 s6))))))
      clear s0 s1 s2 s3 s4 s5 s6
      go_region_held3 (fun w' => w'.cell? ⟨w.heap.size, 0, none⟩ = some (.int .i64 fr) ∧ w'.cell? ⟨w.heap.size, 1, none⟩ = some (.int .i64 ev) ∧ w'.cell? ⟨w.heap.size, 2, none⟩ = some (.int .i64 ct) ∧ w'.cell? ⟨w.heap.size, 3, none⟩ = some (.int .i64 un) ∧ w'.cell? ⟨w.heap.size, 4, none⟩ = some (.slice D dn dc) ∧ w'.cell? ⟨w.heap.size, 5, none⟩ = some (.slice M mn mc) ∧ w'.cell? ⟨w.heap.size, 6, none⟩ = some (.slice Y yn yc)) (first | with_reducible exact keep7d (start _).drew HS7.out | with_reducible exact keep7d (more (start _) _).drew HS7.out | with_reducible exact keep7d (more (more (start _) _) _).drew HS7.out) (fail)
      · go_wp2_with fail
        obtain ⟨qa, qb, hbv⟩ := bq_two U (.int .i64 fr) (.int .i64 ev) (.int .i64 cN) (.int .i64 (-1)) (.slice D dn dc) (.slice M mn mc) (.slice Y yn yc) (.int .i64 fr) (.int .i64 ev) (.int .i64 ((cN : Int) - 1)) (.int .i64 (-1)) (.slice D dn dc) (.slice M mn mc) (.slice Y yn yc) 25
        generalize ((U.alloc (.cells #[.int .i64 fr, .int .i64 ev, .int .i64 cN, .int .i64 (-1), .slice D dn dc, .slice M mn mc, .slice Y yn yc] 25)).alloc (.cells #[.int .i64 fr, .int .i64 ev, .int .i64 ((cN : Int) - 1), .int .i64 (-1), .slice D dn dc, .slice M mn mc, .slice Y yn yc] 25)).drew = V at *
        have HLV := hide (HL.out.keep hbv)
        have hx9 : U.heap.size ≤ U.heap.size + 1 := by omega
        have hx9v : U.heap.size + 1 < V.heap.size := qb.lt
        have HV := hide (hbv)
        have a2 := qa.c2
        have b0 := qb.c0
        have b1 := qb.c1
        have b2 := qb.c2
        have b3 := qb.c3
        have b4 := qb.c4
        have b5 := qb.c5
        have b6 := qb.c6
        have bf := qb.f
        clear qa qb hbv
        refine (starts_code fr ev cN (-1) D M Y dn dc mn mc yn yc ds ms ys s none 0 0 [] _ HLV.out (RowI.nil _ _) rfl (by simp)).mono ?_
        rintro e u5 ⟨v1, rfl, hown, hb⟩
        rw [HA.out] at hown ⊢
        have HZ9 := hide hx9v
        have HO1 := hide hown
        replace a2 := cell_keep hb a2
        replace b0 := cell_keep hb b0
        replace b1 := cell_keep hb b1
        replace b2 := cell_keep hb b2
        replace b3 := cell_keep hb b3
        replace b4 := cell_keep hb b4
        replace b5 := cell_keep hb b5
        replace b6 := cell_keep hb b6
        replace bf : ∀ i, u5.frozen? ⟨U.heap.size + 1, i, none⟩ = false := fun i => (hb.frozen (p := ⟨U.heap.size + 1, i, none⟩) HZ9.out).trans (bf i)
        replace HV := hide (andthen HV.out hb)
        have hx9u : U.heap.size + 1 < u5.heap.size := Nat.lt_of_lt_of_le HZ9.out hb.size
        clear hb hown
        obtain ⟨A1, c1, rfl, _⟩ := HO1.out.row
        go_wp2_with fail
        refine (starts_code fr ev ((cN : Int) - 1) (-1) D M Y dn dc mn mc yn yc ds ms ys s none 0 0 [] _ (HL.out.keep HV.out) (RowI.nil _ _) rfl (by simp)).mono ?_
        rintro e u6 ⟨v2, rfl, hown, hb⟩
        rw [HB.out] at hown ⊢
        have HO2 := hide (OwnI.low hown (Nat.le_of_lt hx9u))
        replace HO1 := hide (HO1.out.keep hb)
        replace a2 := cell_keep hb a2
        replace b0 := cell_keep hb b0
        replace b1 := cell_keep hb b1
        replace b2 := cell_keep hb b2
        replace b3 := cell_keep hb b3
        replace b4 := cell_keep hb b4
        replace b5 := cell_keep hb b5
        replace b6 := cell_keep hb b6
        replace bf : ∀ i, u6.frozen? ⟨U.heap.size + 1, i, none⟩ = false := fun i => (hb.frozen (p := ⟨U.heap.size + 1, i, none⟩) hx9u).trans (bf i)
        replace HV := hide (andthen HV.out hb)
        have hx9w : U.heap.size + 1 < u6.heap.size := Nat.lt_of_lt_of_le hx9u hb.size
        clear hb hown
        obtain ⟨A2, c2, hv2, hrow2⟩ := HO2.out.row
        rw [HMN.out] at hv2
        subst hv2
        obtain ⟨A1', c1', hv1, hrow1, _, hcap⟩ := HO1.out.row0
        injection hv1 with g1 g2 g3
        clear g2
        subst g1 g3
        have HR1 := hide hrow1
        have HR2 := hide hrow2
        obtain ⟨A3, c3, hv3, hrow3⟩ := (OwnI.cut HO1.out (m := mN) (by omega)).row
        injection hv3 with g1 g2 g3
        clear g2 g3
        subst g1
        rw [HTK.out] at hrow3
        have HR3 := hide hrow3
        clear hrow1 hrow2 hrow3
        go_wp2_with fail
        refine (alike_any A2 A1 mN mN c2 c1 (l.take (cN - 1)) _ HR2.out HR3.out HMN.out.symm HMN.out.symm (by rw [HMN.out]; omega)).mono ?_
        rintro e u7 ⟨rfl, hb⟩
        replace HO1 := hide (HO1.out.keep hb)
        replace HR1 := hide (HR1.out.keep hb)
        replace b0 := cell_keep hb b0
        replace b1 := cell_keep hb b1
        replace b2 := cell_keep hb b2
        replace b3 := cell_keep hb b3
        replace b4 := cell_keep hb b4
        replace b5 := cell_keep hb b5
        replace b6 := cell_keep hb b6
        skip
        replace bf : ∀ i, u7.frozen? ⟨U.heap.size + 1, i, none⟩ = false := fun i => (hb.frozen (p := ⟨U.heap.size + 1, i, none⟩) hx9w).trans (bf i)
        replace HV := hide (andthen HV.out hb)
        have hx9y : U.heap.size + 1 < u7.heap.size := Nat.lt_of_lt_of_le hx9w hb.size
        clear hb a2
        obtain ⟨b1, o1, rfl, hb1, hc1⟩ := HR1.out (by intro h0; rw [h0] at hlz; exact absurd hlz (by decide))
        have hil : iN < l.length := by have := HIN.out; omega
        obtain ⟨u, hu⟩ : ∃ u, l[iN] = u := ⟨_, rfl⟩
        have hzz := HZ.out iN hil (by have := HIN.out; omega)
        rw [hu] at hzz
        have HZU := hide hzz.1
        have p1 : u7.cell? ⟨b1, o1 + iN, none⟩ = some (.int .i64 u) := by rw [← hu]; exact hc1 iN hil
        have i0 := HIN.out
        have i1 : (0 : Int) ≤ (iN : Int) := by omega
        have i2 : (iN : Int) < (l.length : Int) := by omega
        have i3 : IntKind.i64.wrap (iN : Int) = (iN : Int) := IntWalk.i64_in _ (by omega)
        have i4 : IntKind.i64.wrap ((l.length : Int) - 1) = (iN : Int) := by rw [i0]; exact i3
        have hne : b1 ≠ U.heap.size + 1 := by have h1 := (HO1.out.lt b1 rfl).1; have h2 := HZ9.out; omega
        clear hzz hu hc1 HZ HR1 HR2 HR3
        go_wp2_with fail
        go_region_held3 (fun w' => w'.cell? ⟨b1, o1 + iN, none⟩ = some (.int .i64 u)) (first | with_reducible exact cell_keep (start _).drew p1 | with_reducible exact cell_keep (start _).drew (cell_far hne p1) | with_reducible exact cell_keep (start _).drew (cell_far hne (cell_far hne p1))) (fail)
        have HN := hide ((Below.setCell (Below.setCell HV.out (p := ⟨U.heap.size + 1, 2, none⟩) hx9 (.int .i64 0)) (p := ⟨U.heap.size + 1, 3, none⟩) hx9 (.int .i64 u)).drew)
        have HO5 := hide (OwnI.keep (ownsRow_setCell_below (ownsRow_setCell_below HO1.out (a := ⟨U.heap.size + 1, 2, none⟩) HZ9.out (.int .i64 0)) (a := ⟨U.heap.size + 1, 3, none⟩) HZ9.out (.int .i64 u)) (start _).drew)
        go_wp2_with fail
        generalize ((u7.setCell ⟨U.heap.size + 1, 2, none⟩ (.int .i64 0)).setCell ⟨U.heap.size + 1, 3, none⟩ (.int .i64 u)).drew = V2 at *
        clear HO1 HV p1
        refine (starts_code fr ev 0 u D M Y dn dc mn mc yn yc ds ms ys s none 0 0 [] _ (HL.out.keep HN.out) (RowI.nil _ _) rfl (by simp)).mono ?_
        rintro e u8 ⟨v3, rfl, hown, hb⟩
        rw [HZU.out] at hown ⊢
        obtain ⟨A4, c4, rfl, hrow4⟩ := hown.row
        have HR4 := hide hrow4
        obtain ⟨A5, c5, hv5, hrow5⟩ := (OwnI.keep HO5.out hb).row
        injection hv5 with g1 g2 g3
        clear g2 g3
        subst g1
        have HR5 := hide hrow5
        replace HN := hide (andthen HN.out hb)
        clear hown hb hrow4 hrow5
        go_wp2_with fail
        refine (alike_any A4 (some ⟨b1, o1, none⟩) _ _ c4 c1 l _ HR4.out HR5.out rfl rfl (by omega)).mono ?_
        rintro e u9 ⟨rfl, hb⟩
        replace HN := hide (andthen HN.out hb)
        clear hb
        go_wp2_with fail
        go_ret
        exact ⟨rfl, andthen HBX.out HN.out⟩
      · go_wp2_with fail
        obtain ⟨qb, qa, hbv⟩ := bq_two U (.int .i64 fr) (.int .i64 ev) (.int .i64 ((cN : Int) - 1)) (.int .i64 (-1)) (.slice D dn dc) (.slice M mn mc) (.slice Y yn yc) (.int .i64 fr) (.int .i64 ev) (.int .i64 cN) (.int .i64 (-1)) (.slice D dn dc) (.slice M mn mc) (.slice Y yn yc) 25
        generalize ((U.alloc (.cells #[.int .i64 fr, .int .i64 ev, .int .i64 ((cN : Int) - 1), .int .i64 (-1), .slice D dn dc, .slice M mn mc, .slice Y yn yc] 25)).alloc (.cells #[.int .i64 fr, .int .i64 ev, .int .i64 cN, .int .i64 (-1), .slice D dn dc, .slice M mn mc, .slice Y yn yc] 25)).drew = V at *
        have HLV := hide (HL.out.keep hbv)
        have hx9 : U.heap.size ≤ U.heap.size := by omega
        have hx9v : U.heap.size < V.heap.size := qb.lt
        have HV := hide (hbv)
        have a2 := qa.c2
        have b0 := qb.c0
        have b1 := qb.c1
        have b2 := qb.c2
        have b3 := qb.c3
        have b4 := qb.c4
        have b5 := qb.c5
        have b6 := qb.c6
        have bf := qb.f
        clear qa qb hbv
        refine (starts_code fr ev cN (-1) D M Y dn dc mn mc yn yc ds ms ys s none 0 0 [] _ HLV.out (RowI.nil _ _) rfl (by simp)).mono ?_
        rintro e u5 ⟨v1, rfl, hown, hb⟩
        rw [HA.out] at hown ⊢
        have HZ9 := hide hx9v
        have HO1 := hide hown
        replace a2 := cell_keep hb a2
        replace b0 := cell_keep hb b0
        replace b1 := cell_keep hb b1
        replace b2 := cell_keep hb b2
        replace b3 := cell_keep hb b3
        replace b4 := cell_keep hb b4
        replace b5 := cell_keep hb b5
        replace b6 := cell_keep hb b6
        replace bf : ∀ i, u5.frozen? ⟨U.heap.size, i, none⟩ = false := fun i => (hb.frozen (p := ⟨U.heap.size, i, none⟩) HZ9.out).trans (bf i)
        replace HV := hide (andthen HV.out hb)
        have hx9u : U.heap.size < u5.heap.size := Nat.lt_of_lt_of_le HZ9.out hb.size
        clear hb hown
        obtain ⟨A1, c1, rfl, _⟩ := HO1.out.row
        go_wp2_with fail
        refine (starts_code fr ev ((cN : Int) - 1) (-1) D M Y dn dc mn mc yn yc ds ms ys s none 0 0 [] _ (HL.out.keep HV.out) (RowI.nil _ _) rfl (by simp)).mono ?_
        rintro e u6 ⟨v2, rfl, hown, hb⟩
        rw [HB.out] at hown ⊢
        have HO2 := hide (OwnI.low hown (Nat.le_of_lt hx9u))
        replace HO1 := hide (HO1.out.keep hb)
        replace a2 := cell_keep hb a2
        replace b0 := cell_keep hb b0
        replace b1 := cell_keep hb b1
        replace b2 := cell_keep hb b2
        replace b3 := cell_keep hb b3
        replace b4 := cell_keep hb b4
        replace b5 := cell_keep hb b5
        replace b6 := cell_keep hb b6
        replace bf : ∀ i, u6.frozen? ⟨U.heap.size, i, none⟩ = false := fun i => (hb.frozen (p := ⟨U.heap.size, i, none⟩) hx9u).trans (bf i)
        replace HV := hide (andthen HV.out hb)
        have hx9w : U.heap.size < u6.heap.size := Nat.lt_of_lt_of_le hx9u hb.size
        clear hb hown
        obtain ⟨A2, c2, hv2, hrow2⟩ := HO2.out.row
        rw [HMN.out] at hv2
        subst hv2
        obtain ⟨A1', c1', hv1, hrow1, _, hcap⟩ := HO1.out.row0
        injection hv1 with g1 g2 g3
        clear g2
        subst g1 g3
        have HR1 := hide hrow1
        have HR2 := hide hrow2
        obtain ⟨A3, c3, hv3, hrow3⟩ := (OwnI.cut HO1.out (m := mN) (by omega)).row
        injection hv3 with g1 g2 g3
        clear g2 g3
        subst g1
        rw [HTK.out] at hrow3
        have HR3 := hide hrow3
        clear hrow1 hrow2 hrow3
        go_wp2_with fail
        refine (alike_any A2 A1 mN mN c2 c1 (l.take (cN - 1)) _ HR2.out HR3.out HMN.out.symm HMN.out.symm (by rw [HMN.out]; omega)).mono ?_
        rintro e u7 ⟨rfl, hb⟩
        replace HO1 := hide (HO1.out.keep hb)
        replace HR1 := hide (HR1.out.keep hb)
        replace b0 := cell_keep hb b0
        replace b1 := cell_keep hb b1
        replace b2 := cell_keep hb b2
        replace b3 := cell_keep hb b3
        replace b4 := cell_keep hb b4
        replace b5 := cell_keep hb b5
        replace b6 := cell_keep hb b6
        skip
        replace bf : ∀ i, u7.frozen? ⟨U.heap.size, i, none⟩ = false := fun i => (hb.frozen (p := ⟨U.heap.size, i, none⟩) hx9w).trans (bf i)
        replace HV := hide (andthen HV.out hb)
        have hx9y : U.heap.size < u7.heap.size := Nat.lt_of_lt_of_le hx9w hb.size
        clear hb a2
        obtain ⟨b1, o1, rfl, hb1, hc1⟩ := HR1.out (by intro h0; rw [h0] at hlz; exact absurd hlz (by decide))
        have hil : iN < l.length := by have := HIN.out; omega
        obtain ⟨u, hu⟩ : ∃ u, l[iN] = u := ⟨_, rfl⟩
        have hzz := HZ.out iN hil (by have := HIN.out; omega)
        rw [hu] at hzz
        have HZU := hide hzz.1
        have p1 : u7.cell? ⟨b1, o1 + iN, none⟩ = some (.int .i64 u) := by rw [← hu]; exact hc1 iN hil
        have i0 := HIN.out
        have i1 : (0 : Int) ≤ (iN : Int) := by omega
        have i2 : (iN : Int) < (l.length : Int) := by omega
        have i3 : IntKind.i64.wrap (iN : Int) = (iN : Int) := IntWalk.i64_in _ (by omega)
        have i4 : IntKind.i64.wrap ((l.length : Int) - 1) = (iN : Int) := by rw [i0]; exact i3
        have hne : b1 ≠ U.heap.size := by have h1 := (HO1.out.lt b1 rfl).1; have h2 := HZ9.out; omega
        clear hzz hu hc1 HZ HR1 HR2 HR3
        go_wp2_with fail
        go_region_held3 (fun w' => w'.cell? ⟨b1, o1 + iN, none⟩ = some (.int .i64 u)) (first | with_reducible exact cell_keep (start _).drew p1 | with_reducible exact cell_keep (start _).drew (cell_far hne p1) | with_reducible exact cell_keep (start _).drew (cell_far hne (cell_far hne p1))) (fail)
        have HN := hide ((Below.setCell (Below.setCell HV.out (p := ⟨U.heap.size, 2, none⟩) hx9 (.int .i64 0)) (p := ⟨U.heap.size, 3, none⟩) hx9 (.int .i64 u)).drew)
        have HO5 := hide (OwnI.keep (ownsRow_setCell_below (ownsRow_setCell_below HO1.out (a := ⟨U.heap.size, 2, none⟩) HZ9.out (.int .i64 0)) (a := ⟨U.heap.size, 3, none⟩) HZ9.out (.int .i64 u)) (start _).drew)
        go_wp2_with fail
        generalize ((u7.setCell ⟨U.heap.size, 2, none⟩ (.int .i64 0)).setCell ⟨U.heap.size, 3, none⟩ (.int .i64 u)).drew = V2 at *
        clear HO1 HV p1
        refine (starts_code fr ev 0 u D M Y dn dc mn mc yn yc ds ms ys s none 0 0 [] _ (HL.out.keep HN.out) (RowI.nil _ _) rfl (by simp)).mono ?_
        rintro e u8 ⟨v3, rfl, hown, hb⟩
        rw [HZU.out] at hown ⊢
        obtain ⟨A4, c4, rfl, hrow4⟩ := hown.row
        have HR4 := hide hrow4
        obtain ⟨A5, c5, hv5, hrow5⟩ := (OwnI.keep HO5.out hb).row
        injection hv5 with g1 g2 g3
        clear g2 g3
        subst g1
        have HR5 := hide hrow5
        replace HN := hide (andthen HN.out hb)
        clear hown hb hrow4 hrow5
        go_wp2_with fail
        refine (alike_any A4 (some ⟨b1, o1, none⟩) _ _ c4 c1 l _ HR4.out HR5.out rfl rfl (by omega)).mono ?_
        rintro e u9 ⟨rfl, hb⟩
        replace HN := hide (andthen HN.out hb)
        clear hb
        go_wp2_with fail
        go_ret
        exact ⟨rfl, andthen HBX.out HN.out⟩

end Go.Proofs.Ytdmplojfidkipaa

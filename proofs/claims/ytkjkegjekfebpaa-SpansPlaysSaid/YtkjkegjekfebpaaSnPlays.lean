/- SpansPlays walked: whatever is added, cut, copied, made anew: all that is told of a set is what the reference tells. -/
import Derived.Test.YtkjkegjekfebpaaSnCopies
import Derived.Deep.DeepCutAuto
import Derived.Deep.CutRange
import Derived.Deep.CutBlock
namespace Go.Proofs.Ytkjkegjekfebpaa
open Go.RowKit Spn

/-- a slice that begins at A reads as the steps. -/
def SRow (w : World) (A : Option Addr) (l : List (Int × Sp)) : Prop :=
  l ≠ [] → ∃ b off, A = some ⟨b, off, none⟩ ∧ b < w.heap.size ∧ ∀ i (h : i < l.length),
    w.cell? ⟨b, off + i * 3, none⟩ = some (.int .i64 l[i].1) ∧ w.cell? ⟨b, off + i * 3 + 1, none⟩ = some (.int .i64 l[i].2.1) ∧ w.cell? ⟨b, off + i * 3 + 2, none⟩ = some (.int .i64 l[i].2.2)
theorem SRow.keep {w w1 : World} {A : Option Addr} {l : List (Int × Sp)} (h : SRow w A l) (hb : Below w.heap.size w w1) : SRow w1 A l := fun hl => by
  obtain ⟨b, off, e, hlt, hc⟩ := h hl
  exact ⟨b, off, e, Nat.lt_of_lt_of_le hlt hb.size, fun i hi => ⟨cell_keep hb (hc i hi).1, cell_keep hb (hc i hi).2.1, cell_keep hb (hc i hi).2.2⟩⟩
/-- the loop: the set, the reference's row, the box, the steps. -/
def Runs (w : World) (x y : Int) (A2 : Option Addr) (st : List (Int × Sp)) (p v i : Value) (wr : World) : Prop := ∃ (m : Nat) (r : List Sp) (g : Nat), m ≤ st.length ∧ i = .int .i64 (m : Int) ∧ p = .pointer (some ⟨g, 0, none⟩) ∧ w.heap.size < g ∧ r.length ≤ 30 + m ∧ SetAt wr g r ∧ Own wr w.heap.size v r ∧ Box wr w.heap.size x y ∧ SRow wr A2 st ∧ Below w.heap.size w wr
/-- behind a step: the set, the reference's row, the box, the steps. -/
def After (w : World) (x y : Int) (A2 : Option Addr) (st : List (Int × Sp)) (m : Nat) (p v : Value) (wx : World) : Prop := ∃ (g : Nat) (r : List Sp), p = .pointer (some ⟨g, 0, none⟩) ∧ w.heap.size < g ∧ r.length ≤ 30 + (m + 1) ∧ SetAt wx g r ∧ Own wx w.heap.size v r ∧ Box wx w.heap.size x y ∧ SRow wx A2 st ∧ Below w.heap.size w wx
theorem SRow.other {w w' : World} {g : Nat} {A : Option Addr} {l : List (Int × Sp)} (h : SRow w A l) (h1 : One w g) (hc : Chg g w w') : SRow w' A l := fun hl => by
  obtain ⟨b, off, e, hlt, hcl⟩ := h hl
  have hpos := List.length_pos_iff.2 hl
  have hne : b ≠ g := fun he => by
    subst he
    exact h1.no (by omega) (hcl 0 hpos).2.1
  exact ⟨b, off, e, Nat.lt_of_lt_of_le hlt (World.grownBy.size hc), fun i hi => ⟨hc.cell' hne (hcl i hi).1, hc.cell' hne (hcl i hi).2.1, hc.cell' hne (hcl i hi).2.2⟩⟩
theorem canon_self (l : List Sp) (h : Neat l) : canon l = l := (canon_of_neat l l h fun _ => Iff.rfl).symm
theorem has_len (l : List Sp) (a : Sp) : (((lackR l a).length : Int) == 0) = hasB l a := by
  unfold hasB
  rw [Bool.eq_iff_iff, beq_iff_eq, decide_eq_true_eq]
  omega
theorem stay {w : World} {g : Nat} {l : List Sp} (_ : SetAt w g l) : Below w.heap.size w w := start w
theorem meets_len (l : List Sp) (a : Sp) : decide (0 < (partR l a).length) = meetsB l a := rfl

set_option maxRecDepth 100000 in
set_option maxHeartbeats 60000000 in
theorem plays_main (A A2 : Option Addr) (c c2 : Nat) (l : List Sp) (st : List (Int × Sp)) (x y : Int) (w : World) (h : Row w A l) (hst : SRow w A2 st) (hl : l.length ≤ 30) (hs2 : st.length ≤ 60) :
    Calls Try.prog 3 #[.slice A l.length c, .slice A2 st.length c2, .agg #[.int .i64 x, .int .i64 y]] w fun e w' => e = .returned (.bool true) ∧ Below w.heap.size w w' := by
  have hbx := more (start w) (.cells #[.int .i64 x, .int .i64 y] 25)
  have hba := box_new w x y
  have HROW := hide (h.keep hbx)
  have HSTEP := hide (hst.keep hbx)
  have HBX := hide hbx
  have HBA := hide hba
  have hcl := canon_len l
  clear h hst hbx hba
  go_enter Try.func3, Try.ntmps3
  go_wp2_with fail
  refine (known_any _).mono ?_
  rintro e w1 ⟨rfl, hb1⟩
  go_wp2_with fail
  refine (of_any A _ c l _ (HROW.out.keep hb1) rfl (by omega)).mono ?_
  rintro e w2 ⟨g, rfl, hg, hs, hb2⟩
  go_wp2_with fail
  refine (R.all_any A _ c l _ (HROW.out.keep (andthen hb1 hb2)) rfl (by omega)).mono ?_
  rintro e w3 ⟨v, rfl, hown, hb3⟩
  have HB3 := hide (andthen HBX.out (andthen hb1 (andthen hb2 hb3)))
  have HBA3 := hide (HBA.out.keep (andthen hb1 (andthen hb2 hb3)))
  have HST3 := hide (HSTEP.out.keep (andthen hb1 (andthen hb2 hb3)))
  have HS3 := hide (hs.keep hb3)
  have HO3 := hide (Own.low hown (andthen HBX.out (andthen hb1 hb2)).size)
  have hgl : w.heap.size < g := by have := (andthen HBX.out hb1).size; have := HBA.out.lt; have := hb1.size; omega
  clear hb1 hb2 hb3 hs hown hg
  go_wp2_with fail
  go_loopw [7, 8, 9] (fun p v i wr => Runs w x y A2 st p v i wr) (fun _ _ i _ => st.length - (intOf i).toNat)
  case atStart => exact ⟨0, canon l, g, Nat.zero_le _, rfl, rfl, hgl, by omega, HS3.out, HO3.out, HBA3.out, HST3.out, HB3.out⟩
  case round =>
    clear hgl HS3 HO3 HBA3 HST3 HB3 hcl
    obtain ⟨m, r, g, hm, rfl, rfl, hgl, hrl, hs, hown, hba, hst, hB⟩ := hrel
    by_cases hlt : m < st.length
    · obtain ⟨b, off, rfl, hb0, hcl⟩ := hst (by intro h0; rw [h0] at hlt; exact absurd hlt (Nat.not_lt_zero _))
      obtain ⟨d0, d1, d2⟩ := hcl m hlt
      clear hcl
      generalize st[m] = s at d0 d1 d2
      obtain ⟨q, a1, a2⟩ := s
      simp only at d0 d1 d2
      have HST := hide hst
      have hbs := more (start wr) (.cells #[.int .i64 q, .int .i64 a1, .int .i64 a2] 31)
      have HBS := hide hbs
      have k0 : (wr.alloc (.cells #[.int .i64 q, .int .i64 a1, .int .i64 a2] 31)).cell? ⟨wr.heap.size, 0, none⟩ = some (.int .i64 q) := by rw [World.cell?_alloc_at _ _ _ _ rfl]; rfl
      have k1 : (wr.alloc (.cells #[.int .i64 q, .int .i64 a1, .int .i64 a2] 31)).cell? ⟨wr.heap.size, 1, none⟩ = some (.int .i64 a1) := by rw [World.cell?_alloc_at _ _ _ _ rfl]; rfl
      have k2 : (wr.alloc (.cells #[.int .i64 q, .int .i64 a1, .int .i64 a2] 31)).cell? ⟨wr.heap.size, 2, none⟩ = some (.int .i64 a2) := by rw [World.cell?_alloc_at _ _ _ _ rfl]; rfl
      have hglt := hs.lt
      have hgne : wr.heap.size ≠ g := by omega
      have hxne : w.heap.size ≠ g := by omega
      have HS := hide (hs.keep hbs)
      have HO := hide (Own.keep hown hbs)
      have HBAX := hide (hba.keep hbs)
      have HB := hide (andthen hB hbs)
      have HNR := hide hs.neat
      have hszw : w.heap.size ≤ wr.heap.size := hB.size
      clear hst hbs hs hown hba hB
      go_upto_block 2 with (fail)
      go_cut [7, 8, 11] from 28 to 166 (fun p v _ wx => After w x y (some ⟨b, off, none⟩) st m p v wx)
      case first =>
        rcases (inferInstance : Decidable (q ≤ 3)) with c1 | c1
        · rcases (inferInstance : Decidable (q ≤ 5)) with c2 | c2
          · rcases (inferInstance : Decidable (q = 6)) with c3 | c3
            · have f1 : decide (q ≤ 3) = false := decide_eq_false c1
              have f2 : decide (q ≤ 5) = false := decide_eq_false c2
              have f3 : (q == 6) = false := beq_eq_false_iff_ne.2 c3
              have HCS := hide (canon_self r HNR.out)
              clear c1 c2 c3
              go_wp2_with fail
              refine (setAll_any g r _ HS.out (by omega)).mono ?_
              rintro e w4 ⟨v4, rfl, hown4, hb4⟩
              obtain ⟨A4, c4, rfl, hr4⟩ := Own.row hown4
              go_wp2_with fail
              refine (of_any A4 _ c4 r _ hr4 rfl (by omega)).mono ?_
              rw [HCS.out]
              rintro e w5 ⟨g2, rfl, hg2, hs5, hb5⟩
              have hbb := andthen hb4 hb5
              have hgl2 : w.heap.size < g2 := by have := hb4.size; have := HS.out.lt; omega
              have HBN := hide (andthen HB.out hbb)
              have HON := hide (Own.keep HO.out hbb)
              have HBXN := hide (HBAX.out.keep hbb)
              have HSTN := hide ((HST.out.keep HBS.out).keep hbb)
              have HSN := hide hs5
              have hrl2 : r.length ≤ 30 + (m + 1) := by omega
              clear hown4 hb4 hb5 hr4 hbb hs5 hg2 k0 k1 k2 d0 d1 d2 HS HO HBAX HB HBS HST
              go_wp2_with fail
              go_meet
              exact ⟨_, _, rfl, hgl2, hrl2, HSN.out, HON.out, HBXN.out, HSTN.out, HBN.out⟩
            · have f1 : decide (q ≤ 3) = false := decide_eq_false c1
              have f2 : decide (q ≤ 5) = false := decide_eq_false c2
              have f3 : (q == 6) = true := beq_iff_eq.2 c3
              subst c3
              clear c1 c2
              go_wp2_with fail
              refine (copy_any g r _ HS.out).mono ?_
              rintro e w4 ⟨g2, rfl, hg2, hs4, hb4⟩
              have hne2 : g2 ≠ g := by have := HS.out.lt; omega
              have hgl2 : w.heap.size < g2 := by have := HS.out.lt; omega
              go_wp2_with fail
              refine (s_any _ _ _).mono ?_
              rintro e w5 ⟨rfl, hb5⟩
              have hbb := andthen hb4 hb5
              go_wp2_with fail
              refine (addSet_any g r 0 52596000 _ (HS.out.keep hbb) (by omega)).mono ?_
              rintro e w6 ⟨rfl, _, hc⟩
              have hone := (HS.out.keep hbb).one
              have HBN := hide (hc.below (andthen HB.out hbb) (andthen HB.out hbb).size (by omega))
              have HON := hide (Own.other (Own.keep HO.out hbb) hone hc)
              have HBXN := hide (Box.other (HBAX.out.keep hbb) hc hxne)
              have HSTN := hide (SRow.other ((HST.out.keep HBS.out).keep hbb) hone hc)
              have HSN := hide (SetAt.other (hs4.keep hb5) hone hc hne2)
              have hrl2 : r.length ≤ 30 + (m + 1) := by omega
              clear hb4 hb5 hbb hs4 hg2 hc hone k0 k1 k2 d0 d1 d2 HS HO HBAX HB HBS HST
              go_wp2_with fail
              go_meet
              exact ⟨_, _, rfl, hgl2, hrl2, HSN.out, HON.out, HBXN.out, HSTN.out, HBN.out⟩
          · have f1 : decide (q ≤ 3) = false := decide_eq_false c1
            have f2 : decide (q ≤ 5) = true := decide_eq_true c2
            clear c1 c2
            go_wp2_with fail
            refine (cutSet_any g r a1 a2 _ HS.out (by omega)).mono ?_
            rintro e w4 ⟨rfl, hs4, hc⟩
            have hone := HS.out.one
            have t0 := Chg.cell' hc hgne k0
            have t1 := Chg.cell' hc hgne k1
            have t2 := Chg.cell' hc hgne k2
            obtain ⟨A4, c4, rfl, _⟩ := Own.row HO.out
            have HR4 := hide (own_row (Own.other HO.out hone hc))
            have hB4 := hc.below HB.out HB.out.size (by omega)
            have hrl3 := subR_len r (a1, a2) HNR.out
            go_wp2_with fail
            refine (R.sub_any A4 _ c4 r a1 a2 _ HR4.out rfl (by omega)).mono ?_
            rintro e w5 ⟨v2, rfl, hown5, hb5⟩
            have HBN := hide (andthen hB4 hb5)
            have HON := hide (Own.low hown5 hB4.size)
            have HBXN := hide ((Box.other HBAX.out hc hxne).keep hb5)
            have HSTN := hide ((SRow.other (HST.out.keep HBS.out) hone hc).keep hb5)
            have HSN := hide (hs4.keep hb5)
            have hrl2 : (subR r (a1, a2)).length ≤ 30 + (m + 1) := by omega
            clear hb5 hown5 hs4 hc hone k0 k1 k2 d0 d1 d2 t0 t1 t2 HS HO HBAX HB HBS HST hB4 HR4
            go_wp2_with fail
            go_meet
            exact ⟨_, _, rfl, hgl, hrl2, HSN.out, HON.out, HBXN.out, HSTN.out, HBN.out⟩
        · have f1 : decide (q ≤ 3) = true := decide_eq_true c1
          clear c1
          go_wp2_with fail
          refine (addSet_any g r a1 a2 _ HS.out (by omega)).mono ?_
          rintro e w4 ⟨rfl, hs4, hc⟩
          have hone := HS.out.one
          have t0 := Chg.cell' hc hgne k0
          have t1 := Chg.cell' hc hgne k1
          have t2 := Chg.cell' hc hgne k2
          have HO4 := hide (Own.other HO.out hone hc)
          have hB4 := hc.below HB.out HB.out.size (by omega)
          have hrl3 := addR_len r (a1, a2)
          go_wp2_with fail
          refine (R.add_any w.heap.size _ r a1 a2 _ HO4.out hB4.size HNR.out (by omega)).mono ?_
          rintro e w5 ⟨v2, rfl, hown5, hb5⟩
          have HBN := hide (andthen hB4 hb5)
          have HON := hide hown5
          have HBXN := hide ((Box.other HBAX.out hc hxne).keep hb5)
          have HSTN := hide ((SRow.other (HST.out.keep HBS.out) hone hc).keep hb5)
          have HSN := hide (hs4.keep hb5)
          have hrl2 : (addR r (a1, a2)).length ≤ 30 + (m + 1) := by omega
          clear hb5 hown5 hs4 hc hone k0 k1 k2 d0 d1 d2 t0 t1 t2 HS HO HBAX HB HBS HST hB4 HO4
          go_wp2_with fail
          go_meet
          exact ⟨_, _, rfl, hgl, hrl2, HSN.out, HON.out, HBXN.out, HSTN.out, HBN.out⟩

      case rest =>
        obtain ⟨g2, r2, rfl, hgl2, hrl2, hs2, ho2, hbx2, hst2, hB2⟩ := hcut
        have HSN := hide hs2
        have HON := hide ho2
        have HBXN := hide hbx2
        have HSTN := hide hst2
        have HBN := hide hB2
        clear hs2 ho2 hbx2 hst2 hB2 k0 k1 k2 d0 d1 d2 HS HO HBAX HB HBS HST
        obtain ⟨AR, cR, rfl, _⟩ := Own.row HON.out
        have hx0 := HBXN.out.c0
        have hx1 := HBXN.out.c1
        have hpl := partR_len r2 (x, y)
        have hll := lackR_len r2 (x, y)
        have HLEN := hide (has_len r2 (x, y))
        have HMEN := hide (meets_len r2 (x, y))
        have HSELF := hide HSN.out
        have HBXK := hide HBXN.out
        have HBK := hide HBN.out
        have HRK := hide (own_row HON.out)
        have HS0 := And.intro hx0 hx1
        clear hx0 hx1
        go_wp2_with fail
        go_region_held3 (fun w' => w'.cell? ⟨w.heap.size, 0, none⟩ = some (.int .i64 x) ∧ w'.cell? ⟨w.heap.size, 1, none⟩ = some (.int .i64 y)) (first | exact keep2 (by assumption) (by assumption) | exact keep2 (start _).drew (by assumption)) ((first
          | (go_at_call 18; (with_reducible refine (R.part_any AR _ cR r2 x y _ (HRK.out.keep (start _).drew) rfl (by omega)).mono ?_); rintro e wa ⟨va, rfl, howna, hba⟩)
          | (go_at_call 19; (with_reducible refine (R.lack_any AR _ cR r2 x y _ (HRK.out.keep (andthen (start _).drew hba)) rfl (by omega)).mono ?_); rintro e wb ⟨vb, rfl, hownb, hbb⟩)))
        have hbk := andthen (start _).drew (andthen hba hbb)
        obtain ⟨Aa, ca, rfl, hra⟩ := Own.row howna
        obtain ⟨Ab, cb, rfl, hrb⟩ := Own.row hownb
        replace hra := hra.keep hbb
        have hrr := HRK.out.keep hbk
        have hss := HSELF.out.keep hbk
        have hbx := HBXK.out.keep hbk
        have hBB := andthen HBK.out hbk
        have hst := HSTN.out.keep hbk
        have hon := Own.keep HON.out hbk
        clear hbk hba hbb howna hownb HS0
        have HRA := hide hra
        have HRB := hide hrb
        have Hr2 := hide hrr
        have HSS := hide hss
        have HXX := hide hbx
        have HBQ := hide hBB
        have HSQ := hide hst
        have HOQ := hide hon
        have x0 := hbx.c0
        have x1 := hbx.c1
        clear hra hrb hrr hss hbx hBB hst hon
        go_wp2_with fail
        refine (setAll_any g2 r2 _ HSS.out (by omega)).mono ?_
        rintro e w11 ⟨vv, rfl, hownv, hb⟩
        have hra := HRA.out.keep hb
        have hrb := HRB.out.keep hb
        have hrr := Hr2.out.keep hb
        have hss := HSS.out.keep hb
        have hbx := HXX.out.keep hb
        have hBB := andthen HBQ.out hb
        have hst := HSQ.out.keep hb
        have hon := Own.keep HOQ.out hb
        obtain ⟨Av, cv, rfl, hrv⟩ := Own.row hownv
        clear hownv
        clear hb HRA HRB Hr2 HSS HXX HBQ HSQ HOQ x0 x1
        have HRA := hide hra
        have HRB := hide hrb
        have Hr2 := hide hrr
        have HSS := hide hss
        have HXX := hide hbx
        have HBQ := hide hBB
        have HSQ := hide hst
        have HOQ := hide hon
        have x0 := hbx.c0
        have x1 := hbx.c1
        clear hra hrb hrr hss hbx hBB hst hon
        go_wp2_with fail
        refine (R.same_self _ _ _ _ _ _ r2 _ hrv Hr2.out rfl rfl (by omega)).mono ?_
        rintro e w12 ⟨rfl, hb⟩
        have hra := HRA.out.keep hb
        have hrb := HRB.out.keep hb
        have hrr := Hr2.out.keep hb
        have hss := HSS.out.keep hb
        have hbx := HXX.out.keep hb
        have hBB := andthen HBQ.out hb
        have hst := HSQ.out.keep hb
        have hon := Own.keep HOQ.out hb
        clear hrv
        clear hb HRA HRB Hr2 HSS HXX HBQ HSQ HOQ x0 x1
        have HRA := hide hra
        have HRB := hide hrb
        have Hr2 := hide hrr
        have HSS := hide hss
        have HXX := hide hbx
        have HBQ := hide hBB
        have HSQ := hide hst
        have HOQ := hide hon
        have x0 := hbx.c0
        have x1 := hbx.c1
        clear hra hrb hrr hss hbx hBB hst hon
        go_wp2_with fail
        refine (setLong_any g2 r2 _ HSS.out (by omega)).mono ?_
        rintro e w13 ⟨rfl, hb⟩
        have hra := HRA.out.keep hb
        have hrb := HRB.out.keep hb
        have hrr := Hr2.out.keep hb
        have hss := HSS.out.keep hb
        have hbx := HXX.out.keep hb
        have hBB := andthen HBQ.out hb
        have hst := HSQ.out.keep hb
        have hon := Own.keep HOQ.out hb
        clear hb HRA HRB Hr2 HSS HXX HBQ HSQ HOQ x0 x1
        have HRA := hide hra
        have HRB := hide hrb
        have Hr2 := hide hrr
        have HSS := hide hss
        have HXX := hide hbx
        have HBQ := hide hBB
        have HSQ := hide hst
        have HOQ := hide hon
        have x0 := hbx.c0
        have x1 := hbx.c1
        clear hra hrb hrr hss hbx hBB hst hon
        go_wp2_with fail
        refine (R.sum_any AR _ cR r2 _ Hr2.out rfl (by omega)).mono ?_
        rintro e w14 ⟨rfl, hb⟩
        have hra := HRA.out.keep hb
        have hrb := HRB.out.keep hb
        have hrr := Hr2.out.keep hb
        have hss := HSS.out.keep hb
        have hbx := HXX.out.keep hb
        have hBB := andthen HBQ.out hb
        have hst := HSQ.out.keep hb
        have hon := Own.keep HOQ.out hb
        clear hb HRA HRB Hr2 HSS HXX HBQ HSQ HOQ x0 x1
        have HRA := hide hra
        have HRB := hide hrb
        have Hr2 := hide hrr
        have HSS := hide hss
        have HXX := hide hbx
        have HBQ := hide hBB
        have HSQ := hide hst
        have HOQ := hide hon
        have x0 := hbx.c0
        have x1 := hbx.c1
        clear hra hrb hrr hss hbx hBB hst hon
        go_wp2_with fail
        refine (part_any g2 r2 x y _ HSS.out (by omega)).mono ?_
        rintro e w15 ⟨vv, rfl, hownv, hb⟩
        have hra := HRA.out.keep hb
        have hrb := HRB.out.keep hb
        have hrr := Hr2.out.keep hb
        have hss := HSS.out.keep hb
        have hbx := HXX.out.keep hb
        have hBB := andthen HBQ.out hb
        have hst := HSQ.out.keep hb
        have hon := Own.keep HOQ.out hb
        obtain ⟨Av, cv, rfl, hrv⟩ := Own.row hownv
        clear hownv
        clear hb HRA HRB Hr2 HSS HXX HBQ HSQ HOQ x0 x1
        have HRA := hide hra
        have HRB := hide hrb
        have Hr2 := hide hrr
        have HSS := hide hss
        have HXX := hide hbx
        have HBQ := hide hBB
        have HSQ := hide hst
        have HOQ := hide hon
        have x0 := hbx.c0
        have x1 := hbx.c1
        clear hra hrb hrr hss hbx hBB hst hon
        go_wp2_with fail
        refine (R.same_self _ _ _ _ _ _ (partR r2 (x, y)) _ hrv HRA.out rfl rfl (by omega)).mono ?_
        rintro e w16 ⟨rfl, hb⟩
        have hra := HRA.out.keep hb
        have hrb := HRB.out.keep hb
        have hrr := Hr2.out.keep hb
        have hss := HSS.out.keep hb
        have hbx := HXX.out.keep hb
        have hBB := andthen HBQ.out hb
        have hst := HSQ.out.keep hb
        have hon := Own.keep HOQ.out hb
        clear hrv
        clear hb HRA HRB Hr2 HSS HXX HBQ HSQ HOQ x0 x1
        have HRA := hide hra
        have HRB := hide hrb
        have Hr2 := hide hrr
        have HSS := hide hss
        have HXX := hide hbx
        have HBQ := hide hBB
        have HSQ := hide hst
        have HOQ := hide hon
        have x0 := hbx.c0
        have x1 := hbx.c1
        clear hra hrb hrr hss hbx hBB hst hon
        go_wp2_with fail
        refine (lack_any g2 r2 x y _ HSS.out (by omega)).mono ?_
        rintro e w17 ⟨vv, rfl, hownv, hb⟩
        have hra := HRA.out.keep hb
        have hrb := HRB.out.keep hb
        have hrr := Hr2.out.keep hb
        have hss := HSS.out.keep hb
        have hbx := HXX.out.keep hb
        have hBB := andthen HBQ.out hb
        have hst := HSQ.out.keep hb
        have hon := Own.keep HOQ.out hb
        obtain ⟨Av, cv, rfl, hrv⟩ := Own.row hownv
        clear hownv
        clear hb HRA HRB Hr2 HSS HXX HBQ HSQ HOQ x0 x1
        have HRA := hide hra
        have HRB := hide hrb
        have Hr2 := hide hrr
        have HSS := hide hss
        have HXX := hide hbx
        have HBQ := hide hBB
        have HSQ := hide hst
        have HOQ := hide hon
        have x0 := hbx.c0
        have x1 := hbx.c1
        clear hra hrb hrr hss hbx hBB hst hon
        go_wp2_with fail
        refine (R.same_self _ _ _ _ _ _ (lackR r2 (x, y)) _ hrv HRB.out rfl rfl (by omega)).mono ?_
        rintro e w18 ⟨rfl, hb⟩
        have hra := HRA.out.keep hb
        have hrb := HRB.out.keep hb
        have hrr := Hr2.out.keep hb
        have hss := HSS.out.keep hb
        have hbx := HXX.out.keep hb
        have hBB := andthen HBQ.out hb
        have hst := HSQ.out.keep hb
        have hon := Own.keep HOQ.out hb
        clear hrv
        clear hb HRA HRB Hr2 HSS HXX HBQ HSQ HOQ x0 x1
        have HRA := hide hra
        have HRB := hide hrb
        have Hr2 := hide hrr
        have HSS := hide hss
        have HXX := hide hbx
        have HBQ := hide hBB
        have HSQ := hide hst
        have HOQ := hide hon
        have x0 := hbx.c0
        have x1 := hbx.c1
        clear hra hrb hrr hss hbx hBB hst hon
        go_wp2_with fail
        refine (has_any g2 r2 x y _ HSS.out).mono ?_
        rintro e w19 ⟨rfl, hb⟩
        have hra := HRA.out.keep hb
        have hrb := HRB.out.keep hb
        have hrr := Hr2.out.keep hb
        have hss := HSS.out.keep hb
        have hbx := HXX.out.keep hb
        have hBB := andthen HBQ.out hb
        have hst := HSQ.out.keep hb
        have hon := Own.keep HOQ.out hb
        clear hb HRA HRB Hr2 HSS HXX HBQ HSQ HOQ x0 x1
        have l1 := HLEN.out
        generalize hasB r2 (x, y) = b0 at *
        cases b0
        all_goals
          have HRA := hide hra
          have HRB := hide hrb
          have Hr2 := hide hrr
          have HSS := hide hss
          have HXX := hide hbx
          have HBQ := hide hBB
          have HSQ := hide hst
          have HOQ := hide hon
          have x0 := hbx.c0
          have x1 := hbx.c1
          clear hra hrb hrr hss hbx hBB hst hon
          go_wp2_with fail
          refine (meets_any g2 r2 x y _ HSS.out).mono ?_
          rintro e w20 ⟨rfl, hb⟩
          have hra := HRA.out.keep hb
          have hrb := HRB.out.keep hb
          have hrr := Hr2.out.keep hb
          have hss := HSS.out.keep hb
          have hbx := HXX.out.keep hb
          have hBB := andthen HBQ.out hb
          have hst := HSQ.out.keep hb
          have hon := Own.keep HOQ.out hb
          clear hb HRA HRB Hr2 HSS HXX HBQ HSQ HOQ x0 x1
          have l2 := HMEN.out
          generalize meetsB r2 (x, y) = b1 at *
          cases b1
          all_goals
            rcases List.eq_nil_or_concat r2 with h0 | ⟨o, z, h0⟩
            · have n0 : ((r2.length : Int) == 0) = true := by rw [h0]; rfl
              have n1 : decide ((0 : Int) < (r2.length : Int)) = false := by rw [h0]; rfl
              have n3 : decide (0 < r2.length) = false := by rw [h0]; rfl
              have HH0 := hide h0
              clear h0
              have HRA := hide hra
              have HRB := hide hrb
              have Hr2 := hide hrr
              have HSS := hide hss
              have HXX := hide hbx
              have HBQ := hide hBB
              have HSQ := hide hst
              have HOQ := hide hon
              have x0 := hbx.c0
              have x1 := hbx.c1
              clear hra hrb hrr hss hbx hBB hst hon
              go_wp2_with fail
              refine (deep_is g2 r2 _ HSS.out).mono ?_
              rintro e w21 ⟨⟨d, rfl, hfl⟩, rfl⟩
              have hb := stay HSS.out
              have hd0 : d = 0 := by have := hfl.le; rw [HH0.out] at this; simpa using this
              subst hd0
              clear hfl
              have hra := HRA.out.keep hb
              have hrb := HRB.out.keep hb
              have hrr := Hr2.out.keep hb
              have hss := HSS.out.keep hb
              have hbx := HXX.out.keep hb
              have hBB := andthen HBQ.out hb
              have hst := HSQ.out.keep hb
              have hon := Own.keep HOQ.out hb
              clear hb HRA HRB Hr2 HSS HXX HBQ HSQ HOQ x0 x1
              have HSZ := hide hss
              have HOZ := hide hon
              have HXZ := hide hbx
              have HTZ := hide hst
              have HBZ := hide hBB
              clear hra hrb hrr hss hon hbx hst hBB l1 l2
              go_wp2_with fail
              go_roundw
              case rel => exact ⟨m + 1, r2, g2, by omega, by go_num, rfl, hgl2, hrl2, HSZ.out, HOZ.out, HXZ.out, HTZ.out, HBZ.out⟩
              case measure => simp [intOf]; omega
            · have n2 : 0 < r2.length := by rw [h0]; simp
              have n0 : ((r2.length : Int) == 0) = false := by rw [beq_eq_false_iff_ne]; omega
              have n1 : decide ((0 : Int) < (r2.length : Int)) = true := decide_eq_true (by omega)
              have n3 : decide (0 < r2.length) = true := decide_eq_true n2
              have HH0 := hide (show r2 ≠ [] by rw [h0]; simp)
              clear h0
              have HRA := hide hra
              have HRB := hide hrb
              have Hr2 := hide hrr
              have HSS := hide hss
              have HXX := hide hbx
              have HBQ := hide hBB
              have HSQ := hide hst
              have HOQ := hide hon
              have x0 := hbx.c0
              have x1 := hbx.c1
              clear hra hrb hrr hss hbx hBB hst hon
              go_wp2_with fail
              refine (deep_is g2 r2 _ HSS.out).mono ?_
              rintro e w22 ⟨⟨d, rfl, hfl⟩, rfl⟩
              have hb := stay HSS.out
              have hdp := hfl.pos HH0.out
              have hd0 : decide ((d : Int) < 1) = false := decide_eq_false (by omega)
              have hd3 : decide (d < 1) = false := decide_eq_false (by omega)
              have hd4 : (d == 0) = false := by rw [beq_eq_false_iff_ne]; omega
              have hd5 : ¬ d = 0 := by omega
              have HFL := hide hfl
              have hdle := hfl.le
              clear hfl
              have hra := HRA.out.keep hb
              have hrb := HRB.out.keep hb
              have hrr := Hr2.out.keep hb
              have hss := HSS.out.keep hb
              have hbx := HXX.out.keep hb
              have hBB := andthen HBQ.out hb
              have hst := HSQ.out.keep hb
              have hon := Own.keep HOQ.out hb
              clear hb HRA HRB Hr2 HSS HXX HBQ HSQ HOQ x0 x1
              have HRA := hide hra
              have HRB := hide hrb
              have Hr2 := hide hrr
              have HSS := hide hss
              have HXX := hide hbx
              have HBQ := hide hBB
              have HSQ := hide hst
              have HOQ := hide hon
              have x0 := hbx.c0
              have x1 := hbx.c1
              clear hra hrb hrr hss hbx hBB hst hon
              go_wp2_with fail
              refine (deep_is g2 r2 _ HSS.out).mono ?_
              rintro e w23 ⟨⟨d2, rfl, hfl2⟩, rfl⟩
              have hb := stay HSS.out
              have HFL2 := hide hfl2
              have hdle2 := hfl2.le
              clear hfl2
              have hra := HRA.out.keep hb
              have hrb := HRB.out.keep hb
              have hrr := Hr2.out.keep hb
              have hss := HSS.out.keep hb
              have hbx := HXX.out.keep hb
              have hBB := andthen HBQ.out hb
              have hst := HSQ.out.keep hb
              have hon := Own.keep HOQ.out hb
              clear hb HRA HRB Hr2 HSS HXX HBQ HSQ HOQ x0 x1
              have HRA := hide hra
              have HRB := hide hrb
              have Hr2 := hide hrr
              have HSS := hide hss
              have HXX := hide hbx
              have HBQ := hide hBB
              have HSQ := hide hst
              have HOQ := hide hon
              have x0 := hbx.c0
              have x1 := hbx.c1
              clear hra hrb hrr hss hbx hBB hst hon
              go_wp2_with fail
              refine (log_any _ _ (by omega)).mono ?_
              rintro e w24 ⟨lq, rfl, hq1, hq2, rfl⟩
              have hb := stay HSS.out
              have hdq := HFL2.out.log (k := lq) (by exact_mod_cast hq1)
              have hd1 : ¬ 2 * (lq : Int) + 2 < (d2 : Int) := by omega
              have hd2 : decide (2 * (lq : Int) + 2 < (d2 : Int)) = false := decide_eq_false hd1
              clear hq1
              have hra := HRA.out.keep hb
              have hrb := HRB.out.keep hb
              have hrr := Hr2.out.keep hb
              have hss := HSS.out.keep hb
              have hbx := HXX.out.keep hb
              have hBB := andthen HBQ.out hb
              have hst := HSQ.out.keep hb
              have hon := Own.keep HOQ.out hb
              clear hb HRA HRB Hr2 HSS HXX HBQ HSQ HOQ x0 x1
              have HSZ := hide hss
              have HOZ := hide hon
              have HXZ := hide hbx
              have HTZ := hide hst
              have HBZ := hide hBB
              clear hra hrb hrr hss hon hbx hst hBB l1 l2
              go_wp2_with fail
              go_roundw
              case rel => exact ⟨m + 1, r2, g2, by omega, by go_num, rfl, hgl2, hrl2, HSZ.out, HOZ.out, HXZ.out, HTZ.out, HBZ.out⟩
              case measure => simp [intOf]; omega
    · obtain rfl : m = st.length := by omega
      have HO := hide hown
      have HBB := hide hB
      have HS := hide hs
      clear hown hB hst hba hs
      go_wp2_with fail
      refine (setAll_any g r _ HS.out (by omega)).mono ?_
      rintro e w4 ⟨v1, rfl, hown1, hb⟩
      obtain ⟨A3, c3, rfl, hr3⟩ := Own.row hown1
      obtain ⟨A4, c4, rfl, hr4⟩ := Own.row (Own.keep HO.out hb)
      go_wp2_with fail
      refine (R.same_self _ _ _ _ _ _ r _ hr3 hr4 rfl rfl (by omega)).mono ?_
      rintro e w5 ⟨rfl, hb5⟩
      have HBF := hide (andthen (andthen HBB.out hb) hb5)
      clear hb hb5 hr3 hr4 hown1
      go_wp2_with fail
      go_ret
      exact ⟨rfl, HBF.out⟩
end Go.Proofs.Ytkjkegjekfebpaa

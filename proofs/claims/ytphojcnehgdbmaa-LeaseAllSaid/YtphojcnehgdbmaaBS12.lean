/- TnR; TnS of the recipes, what is needed of them. -/
import Derived.Test.YtphojcnehgdbmaaBS11
namespace Go.Proofs.Ytphojcnehgdbmaa.S2
open Go.RowKit Spn

theorem chg_of {g : Nat} {w w1 : World} (hb : Below w.heap.size w w1) : Chg g w w1 := ⟨hb.os, hb.tape, hb.output, hb.size, fun k hk _ => hb.block k hk⟩
theorem one_new (w : World) (x y : Int) : ∀ i (h : i < [((x, y) : Sp)].length), (w.alloc (.cells #[.int .i64 x, .int .i64 y] 52)).cell? ⟨w.heap.size, 0 + i * 2, none⟩ = some (.int .i64 [((x, y) : Sp)][i].1) ∧ (w.alloc (.cells #[.int .i64 x, .int .i64 y] 52)).cell? ⟨w.heap.size, 0 + i * 2 + 1, none⟩ = some (.int .i64 [((x, y) : Sp)][i].2) := fun i hi => by
  obtain rfl : i = 0 := by simpa using hi
  exact ⟨by rw [World.cell?_alloc_at _ _ _ _ rfl]; rfl, by rw [World.cell?_alloc_at _ _ _ _ rfl]; rfl⟩
theorem one_kept {w w1 : World} {x y : Int} (hb : Below (w.alloc (.cells #[.int .i64 x, .int .i64 y] 52)).heap.size (w.alloc (.cells #[.int .i64 x, .int .i64 y] 52)) w1) : ∀ i (h : i < [((x, y) : Sp)].length), w1.cell? ⟨w.heap.size, 0 + i * 2, none⟩ = some (.int .i64 [((x, y) : Sp)][i].1) ∧ w1.cell? ⟨w.heap.size, 0 + i * 2 + 1, none⟩ = some (.int .i64 [((x, y) : Sp)][i].2) := fun i hi =>
  ⟨cell_keep hb (one_new w x y i hi).1, cell_keep hb (one_new w x y i hi).2⟩
theorem keepC {g b : Nat} {w w' : World} {u0 u1 : Value} (hne : ¬ b = g) (hc : Chg g w w') (h : w.cell? ⟨b, 0, none⟩ = some u0 ∧ w.cell? ⟨b, 1, none⟩ = some u1) : w'.cell? ⟨b, 0, none⟩ = some u0 ∧ w'.cell? ⟨b, 1, none⟩ = some u1 :=
  ⟨hc.cell' hne h.1, hc.cell' hne h.2⟩
/-- a set is changed in its place. -/
def Turns (W : World) (g : Nat) (l : List Sp) (e : Ending) (w : World) : Prop := e = .returned (.tuple #[]) ∧ SetAt w g l ∧ Chg g W w

set_option maxRecDepth 100000 in
set_option maxHeartbeats 1600000 in
theorem addSet_any (g : Nat) (l : List Sp) (x y : Int) (w : World) (h : SetAt w g l) (hlen : l.length ≤ 300000) :
    Calls Try.prog 25 #[.pointer (some ⟨g, 0, none⟩), .agg #[.int .i64 x, .int .i64 y]] w (Turns w g (addR l (x, y))) := by
  have hbx := more (start w) (.cells #[.int .i64 x, .int .i64 y] 52)
  cases hok : okB (x, y)
  · have HE := hide (addR_no l (x, y) ((okB_not _).1 hok))
    have HK := hide hok
    have H := hide (h.keep hbx)
    have HBX := hide hbx
    clear hok h hbx
    go_enter Try.func25, Try.ntmps25
    go_wp2_with fail
    refine (is_at x y false _ HK.out).mono ?_
    rintro e w1 ⟨rfl, hb1⟩
    go_wp2_with fail
    first | go_end0 | refine bodyPost_ret (results_none rfl _ _ _) rfl ?_
    exact ⟨rfl, by rw [HE.out]; exact H.out.keep hb1, chg_of (andthen HBX.out hb1)⟩
  · have hk := (okB_iff _).1 hok
    have HE : Hid (bef l x ++ canon (tch l (x, y) ++ [(x, y)]) ++ aft l y = addR l (x, y)) := hide (add_row l (x, y) h.neat hk)
    have hcl := canon_len (tch l (x, y) ++ [(x, y)])
    rw [List.length_append, List.length_singleton] at hcl
    have HN := hide (addR_neat l (x, y) h.neat).1
    have HK := hide hok
    have HL := h.lt
    have hx0 : (w.alloc (.cells #[.int .i64 x, .int .i64 y] 52)).cell? ⟨w.heap.size, 0, none⟩ = some (.int .i64 x) := by rw [World.cell?_alloc_at _ _ _ _ rfl]; rfl
    have hx1 : (w.alloc (.cells #[.int .i64 x, .int .i64 y] 52)).cell? ⟨w.heap.size, 1, none⟩ = some (.int .i64 y) := by rw [World.cell?_alloc_at _ _ _ _ rfl]; rfl
    have hxne : ¬ w.heap.size = g := by omega
    have hT := tch_len l (x, y)
    have H := hide h
    have HBX := hide hbx
    clear hok hk h hbx
    go_enter Try.func25, Try.ntmps25
    go_wp2_with fail
    refine (is_at x y true _ HK.out).mono ?_
    rintro e W0 ⟨rfl, hb0⟩
    have HS : W0.cell? ⟨w.heap.size, 0, none⟩ = some (.int .i64 x) ∧ W0.cell? ⟨w.heap.size, 1, none⟩ = some (.int .i64 y) := ⟨cell_keep hb0 hx0, cell_keep hb0 hx1⟩
    have HB0 := hide (andthen HBX.out hb0)
    have HSET := hide (H.out.keep HB0.out)
    clear hx0 hx1 hb0
    go_wp2_with fail
    go_region_held3 (fun w' => w'.cell? ⟨w.heap.size, 0, none⟩ = some (.int .i64 x) ∧ w'.cell? ⟨w.heap.size, 1, none⟩ = some (.int .i64 y)) (first | assumption | exact keep2 (by assumption) HS | exact keep2 (start _).drew HS | exact keep2 (more (start _).drew _) HS | exact keep2 (more (by assumption) _) HS) ((first
      | (go_at_call 43; (with_reducible refine (touch_row g l x y _ (HSET.out.keep (start _).drew) (by omega)).mono ?_); rintro e w1 ⟨v1, rfl, hown1, hb1⟩; have hk1 := andthen (start W0).drew hb1; have hown1 := Own.low hown1 (start W0).drew.size)
      | (go_at_call 43; (with_reducible refine (touch_row g l x y _ (HSET.out.keep (more (start _) _).drew) (by omega)).mono ?_); rintro e w1 ⟨v1, rfl, hown1, hb1⟩; have hk1 := andthen (more (start W0) _).drew hb1; have hown1 := Own.low hown1 (more (start W0) (.cells #[.int .i64 x, .int .i64 y] 52)).drew.size; have hcn := andthen (start (W0.alloc (.cells #[.int .i64 x, .int .i64 y] 52))).drew hb1)
      | (refine step_at (l := tch l (x, y)) (k := [(x, y)]) (B := W0.heap.size) rfl _ _ rfl rfl rfl rfl (one_new w1 x y) (hown1.alloc _) (more hk1 _).size (by omega) (by simp) ?_; intro v2 w2 hown2 hgo2; have hk2 := hgo2.below' (hown1.alloc _) (more hk1 _) (more hk1 _).size; obtain ⟨A2, c2, rfl, hrow2⟩ := Own.row hown2)
      | (refine step_at (l := tch l (x, y)) (k := [(x, y)]) (B := W0.heap.size) rfl _ _ rfl rfl rfl rfl (one_kept hcn) hown1 hk1.size (by omega) (by simp) ?_; intro v2 w2 hown2 hgo2; have hk2 := hgo2.below' hown1 hk1 hk1.size; obtain ⟨A2, c2, rfl, hrow2⟩ := Own.row hown2)
      | (go_at_call 42; (with_reducible refine (all_any A2 _ c2 (tch l (x, y) ++ [(x, y)]) _ hrow2 (by simp) (by rw [List.length_append, List.length_singleton]; omega)).mono ?_); rintro e w3 ⟨v3, rfl, hown3, hb3⟩; have hk3 := hk2.trans (hb3.mono hk2.size); obtain ⟨A3, c3, rfl, hrow3⟩ := Own.row hown3)
      | (go_at_call 41; (with_reducible refine (replace_any g l x y A3 _ c3 (canon (tch l (x, y) ++ [(x, y)])) _ (HSET.out.keep hk3) hrow3 rfl (by omega) (by rw [HE.out]; exact HN.out)).mono ?_); rintro e w4 ⟨rfl, hs4, hg4⟩; have HS4 := keepC hxne hg4 (keep2 hk3 HS))))
    all_goals
      go_wp2_with fail
      first | go_end0 | refine bodyPost_ret (results_none rfl _ _ _) rfl ?_
      exact ⟨rfl, by rw [← HE.out]; exact hs4, Below.chg (andthen HB0.out hk3) hg4⟩
end Go.Proofs.Ytphojcnehgdbmaa.S2
namespace Go.Proofs.Ytphojcnehgdbmaa.S2
open Go.RowKit Spn

theorem subR_two : ∀ (l : List Sp) (a : Sp), (subR l a).length ≤ 2 * l.length
  | [], _ => by simp [subR]
  | b :: r, a => by
    have e : subR (b :: r) a = minus b a ++ subR r a := rfl
    have h1 := subR_two r a
    have h2 := minus_len b a
    rw [e, List.length_append, List.length_cons]; omega

set_option maxRecDepth 100000 in
set_option maxHeartbeats 1600000 in
theorem cutSet_any (g : Nat) (l : List Sp) (x y : Int) (w : World) (h : SetAt w g l) (hlen : l.length ≤ 100000) :
    Calls Try.prog 45 #[.pointer (some ⟨g, 0, none⟩), .agg #[.int .i64 x, .int .i64 y]] w (Turns w g (subR l (x, y))) := by
  have hbx := more (start w) (.cells #[.int .i64 x, .int .i64 y] 52)
  cases hok : okB (x, y)
  · have HE := hide (subR_no l (x, y) h.neat ((okB_not _).1 hok))
    have HK := hide hok
    have H := hide (h.keep hbx)
    have HBX := hide hbx
    clear hok h hbx
    go_enter Try.func45, Try.ntmps45
    go_wp2_with fail
    refine (is_at x y false _ HK.out).mono ?_
    rintro e w1 ⟨rfl, hb1⟩
    go_wp2_with fail
    first | go_end0 | refine bodyPost_ret (results_none rfl _ _ _) rfl ?_
    exact ⟨rfl, by rw [HE.out]; exact H.out.keep hb1, chg_of (andthen HBX.out hb1)⟩
  · have hk := (okB_iff _).1 hok
    have HE : Hid (bef l x ++ subR (tch l (x, y)) (x, y) ++ aft l y = subR l (x, y)) := hide (sub_row l (x, y) h.neat hk)
    have HN := hide (subR_neat l (x, y) h.neat)
    have HK := hide hok
    have HL := h.lt
    have hx0 : (w.alloc (.cells #[.int .i64 x, .int .i64 y] 52)).cell? ⟨w.heap.size, 0, none⟩ = some (.int .i64 x) := by rw [World.cell?_alloc_at _ _ _ _ rfl]; rfl
    have hx1 : (w.alloc (.cells #[.int .i64 x, .int .i64 y] 52)).cell? ⟨w.heap.size, 1, none⟩ = some (.int .i64 y) := by rw [World.cell?_alloc_at _ _ _ _ rfl]; rfl
    have hxne : ¬ w.heap.size = g := by omega
    have hT := tch_len l (x, y)
    have hTT := subR_two (tch l (x, y)) (x, y)
    have H := hide h
    have HBX := hide hbx
    clear hok hk h hbx
    go_enter Try.func45, Try.ntmps45
    go_wp2_with fail
    refine (is_at x y true _ HK.out).mono ?_
    rintro e W0 ⟨rfl, hb0⟩
    have HS : W0.cell? ⟨w.heap.size, 0, none⟩ = some (.int .i64 x) ∧ W0.cell? ⟨w.heap.size, 1, none⟩ = some (.int .i64 y) := ⟨cell_keep hb0 hx0, cell_keep hb0 hx1⟩
    have HB0 := hide (andthen HBX.out hb0)
    have HSET := hide (H.out.keep HB0.out)
    clear hx0 hx1 hb0
    go_wp2_with fail
    go_region_held3 (fun w' => w'.cell? ⟨w.heap.size, 0, none⟩ = some (.int .i64 x) ∧ w'.cell? ⟨w.heap.size, 1, none⟩ = some (.int .i64 y)) (first | exact keep2 (by assumption) (by assumption) | exact keep2 (start _).drew HS) ((first
      | (go_at_call 43; (with_reducible refine (touch_row g l x y _ (HSET.out.keep (start _).drew) (by omega)).mono ?_); rintro e w1 ⟨v1, rfl, hown1, hb1⟩; have HS1 := keep2 hb1 (keep2 (start _).drew HS); obtain ⟨A1, c1, rfl, hrow1⟩ := Own.row hown1; have hk1 := andthen (start W0).drew hb1)))
    have HSET1 := hide (HSET.out.keep hk1)
    have HBW := hide (andthen HB0.out hk1)
    have hX : w.heap.size < w1.heap.size := by have := (andthen HB0.out hk1).size; have := block_lt_of_cell HS1.1; exact this
    generalize tch l (x, y) = T at *
    clear hown1 hb1 HS hk1 HSET HB0 H HBX
    obtain ⟨hs0, hs1⟩ := HS1
    have HROW := hide hrow1
    clear hrow1
    go_wp2_with fail
    go_loopw [4, 16] (fun v i wr => ∃ k : Nat, k ≤ T.length ∧ i = .int .i64 k ∧ Own wr w1.heap.size v (subR (T.take k) (x, y)) ∧ Below w1.heap.size w1 wr) (fun _ i _ => T.length - (intOf i).toNat)
    case atStart => exact ⟨0, Nat.zero_le _, rfl, own_nil _ _, start _⟩
    case round =>
      obtain ⟨k, hk, rfl, hown, hbw⟩ := hrel
      have hsz := hbw.size
      by_cases hlt : k < T.length
      · obtain ⟨b, off, rfl, hb, hcl⟩ := HROW.out (by intro h0; rw [h0] at hlt; exact absurd hlt (Nat.not_lt_zero _))
        obtain ⟨d0, d1⟩ := hcl k hlt
        have e0 := (hbw.cell (p := ⟨b, _, none⟩) hb).trans d0
        have e1 := (hbw.cell (p := ⟨b, _, none⟩) hb).trans d1
        have x0 := (hbw.cell (p := ⟨w.heap.size, _, none⟩) hX).trans hs0
        have x1 := (hbw.cell (p := ⟨w.heap.size, _, none⟩) hX).trans hs1
        have hX2 : w.heap.size < wr.heap.size := by omega
        have hpl := subR_two (T.take k) (x, y)
        have htl : (T.take k).length ≤ k := List.length_take_le _ _
        have hml := minus_len (T[k].1, T[k].2) (x, y)
        have HN2 : Hid (subR (T.take (k + 1)) (x, y) = subR (T.take k) (x, y) ++ minus (T[k].1, T[k].2) (x, y)) := hide (subR_take T (x, y) k hlt)
        have HO := hide hown
        have HBR := hide hbw
        clear hown hbw hcl d0 d1
        go_wp2_with fail
        refine (minus_any T[k].1 T[k].2 x y _).mono ?_
        rintro e w2 ⟨v2, rfl, hown2, hb2⟩
        have hbb := andthen (more (start _) _) hb2
        have HBB := hide hbb
        have HO1 := hide (Own.keep HO.out hbb)
        have HO2 := hide hown2
        clear hb2 hbb hown2
        have hsz2 := Nat.le_trans hsz HBB.out.size
        go_wp2_with (at_builtin; refine wp_ownG (B := w1.heap.size) (l := subR (T.take k) (x, y)) (k := minus (T[k].1, T[k].2) (x, y)) rfl _ _ rfl rfl rfl HO2.out HO1.out hsz2 (by omega) (by omega) ?_; intro v3 w3 hown3 hgo3)
        have HO3 := hide hown3
        have HB3 := hide (hgo3.below' HO1.out (HBR.out.trans (HBB.out.mono hsz)) hsz2)
        clear hown3 hgo3
        go_roundw
        case rel => exact ⟨k + 1, by omega, by go_num, by rw [HN2.out]; exact HO3.out, HB3.out⟩
        case measure => simp [intOf]; omega
      · obtain rfl : k = T.length := by omega
        rw [List.take_length] at hown
        have HS2 : wr.cell? ⟨w.heap.size, 0, none⟩ = some (.int .i64 x) ∧ wr.cell? ⟨w.heap.size, 1, none⟩ = some (.int .i64 y) := ⟨(hbw.cell (p := ⟨w.heap.size, _, none⟩) hX).trans hs0, (hbw.cell (p := ⟨w.heap.size, _, none⟩) hX).trans hs1⟩
        obtain ⟨A4, c4, rfl, hrow4⟩ := Own.row hown
        have HROW4 := hide (hrow4.keep (start _).drew)
        have HSET2 := hide (HSET1.out.keep (andthen hbw (start _).drew))
        have HBR := hide hbw
        clear hown hbw hrow4
        go_wp2_with fail
        go_region_held3 (fun w' => w'.cell? ⟨w.heap.size, 0, none⟩ = some (.int .i64 x) ∧ w'.cell? ⟨w.heap.size, 1, none⟩ = some (.int .i64 y)) (first | assumption | exact keep2 (start _).drew HS2) ((first
          | (go_at_call 41; (with_reducible refine (replace_any g l x y A4 _ c4 (subR T (x, y)) _ HSET2.out HROW4.out rfl (by omega) (by rw [HE.out]; exact HN.out)).mono ?_); rintro e w4 ⟨rfl, hs4, hg4⟩; have HS4 := keepC hxne hg4 (keep2 (start _).drew HS2))))
        go_wp2_with fail
        first | go_end0 | refine bodyPost_ret (results_none rfl _ _ _) rfl ?_
        exact ⟨rfl, by rw [← HE.out]; exact hs4, Below.chg (andthen HBW.out (andthen HBR.out (start _).drew)) hg4⟩
end Go.Proofs.Ytphojcnehgdbmaa.S2

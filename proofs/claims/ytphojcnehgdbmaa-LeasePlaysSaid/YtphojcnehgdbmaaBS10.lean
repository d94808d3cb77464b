/- TnN; TnO of the recipes, what is needed of them. -/
import Derived.Test.YtphojcnehgdbmaaBS9
namespace Go.Proofs.Ytphojcnehgdbmaa.S2
open Go.RowKit Spn

theorem Adds.below {W w : World} {B : Nat} {v : Value} {l l2 : List Sp} {e : Ending} (h : Adds W B v l2 e w) (hown : Own W B v l) (hB : B ≤ W.heap.size) : ∃ v', e = .returned v' ∧ Own w B v' l2 ∧ Goes v W v' w ∧ Below B W w := by
  obtain ⟨v', he, ho, hg⟩ := h
  exact ⟨v', he, ho, hg, (Below.refl B W).grown hg.grown hB fun j hj => (hown.lt j hj).1⟩
theorem part_next (l : List Sp) (x y : Int) (k : Nat) (h : k < l.length) (q1 q2 : Int) (hq : meet (x, y) l[k] = (q1, q2)) : partR (l.take (k + 1)) (x, y) = partR (l.take k) (x, y) ++ valid [(q1, q2)] := by
  rw [partR_take l _ k h, valid_one, meet_comm, hq]

set_option maxRecDepth 100000 in
set_option maxHeartbeats 1600000 in
theorem part_any (g : Nat) (l : List Sp) (x y : Int) (w : World) (h : SetAt w g l) (hlen : l.length ≤ 800000) :
    Calls Try.prog 52 #[.pointer (some ⟨g, 0, none⟩), .agg #[.int .i64 x, .int .i64 y]] w (Gives w (partR l (x, y))) := by
  have hbx := more (start w) (.cells #[.int .i64 x, .int .i64 y] 52)
  have HP := hide (part_row l (x, y) h.neat)
  have H := hide (h.keep hbx.drew)
  have HBX := hide hbx
  have hT := tch_len l (x, y)
  have HS : (w.alloc (.cells #[.int .i64 x, .int .i64 y] 52)).cell? ⟨w.heap.size, 0, none⟩ = some (.int .i64 x) ∧ (w.alloc (.cells #[.int .i64 x, .int .i64 y] 52)).cell? ⟨w.heap.size, 1, none⟩ = some (.int .i64 y) :=
    ⟨by rw [World.cell?_alloc_at _ _ _ _ rfl]; rfl, by rw [World.cell?_alloc_at _ _ _ _ rfl]; rfl⟩
  clear h hbx
  go_enter Try.func52, Try.ntmps52
  go_wp2_with fail
  go_region_held3 (fun w' => w'.cell? ⟨w.heap.size, 0, none⟩ = some (.int .i64 x) ∧ w'.cell? ⟨w.heap.size, 1, none⟩ = some (.int .i64 y)) (first | exact keep2 (by assumption) (by assumption) | exact keep2 (start _).drew (by assumption)) ((first
    | (go_at_call 43; (with_reducible refine (touch_row g l x y _ H.out hlen).mono ?_); rintro e w1 ⟨v1, rfl, hown1, hb1⟩; have HS1 := keep2 hb1 (keep2 (start _).drew HS); obtain ⟨A1, c1, rfl, hrow1⟩ := Own.row hown1)))
  have HBW := hide (andthen HBX.out.drew hb1)
  have hX : w.heap.size < w1.heap.size := by have := hb1.size; simp at this; omega
  generalize tch l (x, y) = T at *
  clear hown1 hb1 HS
  obtain ⟨hs0, hs1⟩ := HS1
  have HROW := hide hrow1
  clear hrow1
  go_wp2_with fail
  go_loopw [5, 14] (fun v i wr => ∃ k : Nat, k ≤ T.length ∧ i = .int .i64 k ∧ Own wr w1.heap.size v (partR (T.take k) (x, y)) ∧ Below w1.heap.size w1 wr) (fun _ i _ => T.length - (intOf i).toNat)
  case atStart => exact ⟨0, Nat.zero_le _, rfl, own_nil _ _, start _⟩
  case round =>
    obtain ⟨k, hk, rfl, hown, hbw⟩ := hrel
    by_cases hlt : k < T.length
    · obtain ⟨b, off, rfl, hb, hcl⟩ := HROW.out (by intro h0; rw [h0] at hlt; exact absurd hlt (Nat.not_lt_zero _))
      obtain ⟨d0, d1⟩ := hcl k hlt
      have e0 := (hbw.cell (p := ⟨b, _, none⟩) hb).trans d0
      have e1 := (hbw.cell (p := ⟨b, _, none⟩) hb).trans d1
      have x0 := (hbw.cell (p := ⟨w.heap.size, _, none⟩) hX).trans hs0
      have x1 := (hbw.cell (p := ⟨w.heap.size, _, none⟩) hX).trans hs1
      have hsz := hbw.size
      have hX2 : w.heap.size < wr.heap.size := by omega
      have hpl := partR_len (T.take k) (x, y)
      have htl : (T.take k).length ≤ k := List.length_take_le _ _
      obtain ⟨q1, q2, hq⟩ : ∃ q1 q2, meet (x, y) (T[k].1, T[k].2) = (q1, q2) := ⟨_, _, rfl⟩
      have HQ := hide hq
      have HN := hide (part_next T x y k hlt q1 q2 hq)
      have HO := hide hown
      have HBR := hide hbw
      clear hq hown hbw hcl d0 d1
      go_wp2_with fail
      refine (meet_is _ _ _ _ q1 q2 _ HQ.out).mono ?_
      rintro e w2 ⟨rfl, hb2⟩
      have hbb := andthen (more (start _) _) hb2
      have HBB := hide hbb
      clear hb2
      go_wp2_with fail
      refine (appendValid_any w1.heap.size _ _ q1 q2 _ (Own.keep HO.out hbb) (Nat.le_trans hsz hbb.size) (by omega)).mono ?_
      intro e w3 hA
      obtain ⟨v3, rfl, hown3, hgo3, hb3⟩ := Adds.below hA (Own.keep HO.out HBB.out) (Nat.le_trans hsz HBB.out.size)
      have HO3 := hide hown3
      have HB3 := hide hb3
      clear hA hown3 hgo3 hb3 hbb
      go_wp2_with fail
      go_roundw
      case rel => exact ⟨k + 1, by omega, by go_num, by rw [HN.out]; exact HO3.out, (HBR.out.trans (HBB.out.mono hsz)).trans HB3.out⟩
      case measure => simp [intOf]; omega
    · obtain rfl : k = T.length := by omega
      rw [List.take_length] at hown
      have HO := hide hown
      have HBR := hide hbw
      clear hown hbw
      go_wp2_with fail
      go_ret
      exact ⟨_, rfl, by rw [← HP.out]; exact Own.low HO.out HBW.out.size, andthen HBW.out HBR.out⟩
end Go.Proofs.Ytphojcnehgdbmaa.S2
namespace Go.Proofs.Ytphojcnehgdbmaa.S2
open Go.RowKit Spn

set_option maxRecDepth 100000 in
set_option maxHeartbeats 1600000 in
theorem lack_any (g : Nat) (l : List Sp) (x y : Int) (w : World) (h : SetAt w g l) (hlen : l.length ≤ 800000) :
    Calls Try.prog 55 #[.pointer (some ⟨g, 0, none⟩), .agg #[.int .i64 x, .int .i64 y]] w (Gives w (lackR l (x, y))) := by
  have hbx := more (start w) (.cells #[.int .i64 x, .int .i64 y] 52)
  have HP := hide (lack_row l (x, y) h.neat)
  have H := hide (h.keep hbx.drew)
  have HBX := hide hbx
  have hT := tch_len l (x, y)
  have HS : (w.alloc (.cells #[.int .i64 x, .int .i64 y] 52)).cell? ⟨w.heap.size, 0, none⟩ = some (.int .i64 x) ∧ (w.alloc (.cells #[.int .i64 x, .int .i64 y] 52)).cell? ⟨w.heap.size, 1, none⟩ = some (.int .i64 y) :=
    ⟨by rw [World.cell?_alloc_at _ _ _ _ rfl]; rfl, by rw [World.cell?_alloc_at _ _ _ _ rfl]; rfl⟩
  clear h hbx
  go_enter Try.func55, Try.ntmps55
  go_wp2_with fail
  go_region_held3 (fun w' => w'.cell? ⟨w.heap.size, 0, none⟩ = some (.int .i64 x) ∧ w'.cell? ⟨w.heap.size, 1, none⟩ = some (.int .i64 y)) (first | exact keep2 (by assumption) (by assumption) | exact keep2 (start _).drew (by assumption)) ((first
    | (go_at_call 43; (with_reducible refine (touch_row g l x y _ H.out hlen).mono ?_); rintro e w1 ⟨v1, rfl, hown1, hb1⟩; have HS1 := keep2 hb1 (keep2 (start _).drew HS); obtain ⟨A1, c1, rfl, hrow1⟩ := Own.row hown1)))
  have HBW := hide (andthen HBX.out.drew hb1)
  have hX : w.heap.size < w1.heap.size := by have := hb1.size; simp at this; omega
  generalize tch l (x, y) = T at *
  clear hown1 hb1 HS
  obtain ⟨hs0, hs1⟩ := HS1
  have HROW := hide hrow1
  clear hrow1
  go_wp2_with fail
  go_loopw [5, 6, 17] (fun v m i wr => ∃ k : Nat, k ≤ T.length ∧ i = .int .i64 k ∧ m = .int .i64 (gaps (T.take k) x).2 ∧ Own wr w1.heap.size v (gaps (T.take k) x).1 ∧ Below w1.heap.size w1 wr) (fun _ _ i _ => T.length - (intOf i).toNat)
  case atStart => exact ⟨0, Nat.zero_le _, rfl, rfl, own_nil _ _, start _⟩
  case round =>
    obtain ⟨k, hk, rfl, rfl, hown, hbw⟩ := hrel
    have hsz := hbw.size
    have hgl := gaps_len (T.take k) x
    have htl : (T.take k).length ≤ k := List.length_take_le _ _
    by_cases hlt : k < T.length
    · obtain ⟨b, off, rfl, hb, hcl⟩ := HROW.out (by intro h0; rw [h0] at hlt; exact absurd hlt (Nat.not_lt_zero _))
      obtain ⟨d0, d1⟩ := hcl k hlt
      have e0 := (hbw.cell (p := ⟨b, _, none⟩) hb).trans d0
      have e1 := (hbw.cell (p := ⟨b, _, none⟩) hb).trans d1
      have HN := hide (gaps_take T x k hlt)
      have HO := hide hown
      have HBR := hide hbw
      have n0 : (wr.alloc (.cells #[.int .i64 T[k].1, .int .i64 T[k].2] 52)).cell? ⟨wr.heap.size, 1, none⟩ = some (.int .i64 T[k].2) := by rw [World.cell?_alloc_at _ _ _ _ rfl]; rfl
      have HAP := hide (apart_new hown (Nat.le_refl _))
      clear hown hbw hcl d0 d1
      generalize (gaps (T.take k) x).2 = f at *
      generalize (gaps (T.take k) x).1 = G at *
      have hbb := more (start wr) (.cells #[.int .i64 T[k].1, .int .i64 T[k].2] 52)
      have HBB := hide hbb
      go_wp2_with fail
      refine (appendValid_any w1.heap.size _ G f T[k].1 _ (Own.keep HO.out hbb) (Nat.le_trans hsz hbb.size) (by omega)).mono ?_
      intro e w3 hA
      obtain ⟨v3, rfl, hown3, hgo3, hb3⟩ := Adds.below hA (Own.keep HO.out HBB.out) (Nat.le_trans hsz HBB.out.size)
      have n1 := hgo3.cell HAP.out n0
      have HO3 := hide hown3
      have HB3 := hide hb3
      clear hA hown3 hgo3 hb3 hbb n0
      go_wp2_with fail
      go_roundw
      case rel => exact ⟨k + 1, by omega, by go_num, by rw [HN.out], by rw [HN.out]; exact HO3.out, (HBR.out.trans (HBB.out.mono hsz)).trans HB3.out⟩
      case measure => simp [intOf]; omega
    · obtain rfl : k = T.length := by omega
      rw [List.take_length] at hown ⊢
      have x1 := (hbw.cell (p := ⟨w.heap.size, _, none⟩) hX).trans hs1
      have HP2 : Hid ((gaps T x).1 ++ valid [((gaps T x).2, y)] = lackR l (x, y)) := hide HP.out
      have HO := hide hown
      have HBR := hide hbw
      have hgl2 := gaps_len T x
      clear hown hbw hgl htl
      generalize (gaps T x).2 = f at *
      generalize (gaps T x).1 = G at *
      go_wp2_with fail
      refine (appendValid_any w1.heap.size _ G f y _ HO.out hsz (by omega)).mono ?_
      intro e w3 hA
      obtain ⟨v3, rfl, hown3, hgo3, hb3⟩ := Adds.below hA HO.out hsz
      have HO3 := hide hown3
      have HB3 := hide hb3
      clear hA hown3 hgo3 hb3
      go_wp2_with fail
      go_ret
      exact ⟨_, rfl, by rw [← HP2.out]; exact Own.low HO3.out HBW.out.size, andthen HBW.out (HBR.out.trans HB3.out)⟩
end Go.Proofs.Ytphojcnehgdbmaa.S2

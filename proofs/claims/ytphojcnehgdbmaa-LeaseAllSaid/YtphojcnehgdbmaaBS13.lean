/- TnT; TnU of the recipes, what is needed of them. -/
import Derived.Test.YtphojcnehgdbmaaBS12
import Derived.Test.YtphojcnehgdbmaaBS5
namespace Go.Proofs.Ytphojcnehgdbmaa.S2.R
open Go.RowKit Spn

set_option maxRecDepth 100000 in
set_option maxHeartbeats 1600000 in
theorem sub_any (A : Option Addr) (n c : Nat) (l : List Sp) (x y : Int) (w : World) (h : Row w A l) (he : n = l.length) (hn : l.length ≤ 400000) :
    Calls Try.prog 31 #[.slice A n c, .agg #[.int .i64 x, .int .i64 y]] w (Gives w (subR l (x, y))) := by
  subst he
  have hbx := more (start w) (.cells #[.int .i64 x, .int .i64 y] 52)
  have HROW := hide (h.keep hbx)
  have HBX := hide hbx
  have hx0 : (w.alloc (.cells #[.int .i64 x, .int .i64 y] 52)).cell? ⟨w.heap.size, 0, none⟩ = some (.int .i64 x) := by rw [World.cell?_alloc_at _ _ _ _ rfl]; rfl
  have hx1 : (w.alloc (.cells #[.int .i64 x, .int .i64 y] 52)).cell? ⟨w.heap.size, 1, none⟩ = some (.int .i64 y) := by rw [World.cell?_alloc_at _ _ _ _ rfl]; rfl
  clear h hbx
  go_enter Try.func31, Try.ntmps31
  go_wp2_with fail
  generalize hW : w.alloc (.cells #[.int .i64 x, .int .i64 y] 52) = W at *
  clear hW
  go_loopw [5, 6] (fun v i wr => ∃ k : Nat, k ≤ l.length ∧ i = .int .i64 k ∧ Own wr W.heap.size v (subR (l.take k) (x, y)) ∧ Below W.heap.size W wr) (fun _ i _ => l.length - (intOf i).toNat)
  case atStart => exact ⟨0, Nat.zero_le _, rfl, own_nil _ _, start _⟩
  case round =>
    obtain ⟨k, hk, rfl, hown, hbw⟩ := hrel
    by_cases hlt : k < l.length
    · obtain ⟨b, off, rfl, hb, hcl⟩ := HROW.out (by intro h0; rw [h0] at hlt; exact absurd hlt (Nat.not_lt_zero _))
      obtain ⟨d0, d1⟩ := hcl k hlt
      have HSk := hide (And.intro d0 (And.intro d1 (And.intro hx0 hx1)))
      have hpl := subR_two (l.take k) (x, y)
      have htl : (l.take k).length ≤ k := List.length_take_le _ _
      have hml := minus_len (l[k].1, l[k].2) (x, y)
      rw [minus_ref] at hml
      have HN : Hid (subR (l.take (k + 1)) (x, y) = subR (l.take k) (x, y) ++ minusR (l[k].1, l[k].2) (x, y)) := hide (by rw [← minus_ref]; exact subR_take l (x, y) k hlt)
      have HO := hide hown
      clear hown hcl d0 d1
      go_wp2_with fail
      go_region_held3 (fun w' => w'.cell? ⟨b, off + k * 2, none⟩ = some (.int .i64 l[k].1) ∧ w'.cell? ⟨b, off + k * 2 + 1, none⟩ = some (.int .i64 l[k].2) ∧ w'.cell? ⟨w.heap.size, 0, none⟩ = some (.int .i64 x) ∧ w'.cell? ⟨w.heap.size, 1, none⟩ = some (.int .i64 y)) (first | exact keep4 (by assumption) HSk.out | exact keep4 hbw.drew HSk.out) ((first
        | (go_at_call 48; (with_reducible refine (minus_any l[k].1 l[k].2 x y _).mono ?_); rintro e w2 ⟨v2, rfl, hown2, hb2⟩; have hk2 := hbw.drew.trans (hb2.mono hbw.drew.size); have hO2 := Own.keep HO.out (andthen (start wr).drew hb2))
        | (refine step_own (B := W.heap.size) (l := subR (l.take k) (x, y)) (k := minusR (l[k].1, l[k].2) (x, y)) rfl _ _ rfl rfl rfl hown2 hO2 hk2.size (by omega) (by omega) ?_; intro v3 w3 hown3 hgo3; have hk3 := hgo3.below' hO2 hk2 hk2.size)))
      have HO3 := hide hown3
      have HK3 := hide hk3
      go_wp2_with fail
      go_roundw
      case rel => exact ⟨k + 1, by omega, by go_num, by rw [HN.out]; exact HO3.out, HK3.out⟩
      case measure => simp [intOf]; omega
    · obtain rfl : k = l.length := by omega
      rw [List.take_length] at hown
      have HO := hide hown
      have HBR := hide hbw
      clear hown hbw
      go_wp2_with fail
      go_ret
      exact ⟨_, rfl, Own.low HO.out HBX.out.size, andthen HBX.out HBR.out⟩

end Go.Proofs.Ytphojcnehgdbmaa.S2.R
namespace Go.Proofs.Ytphojcnehgdbmaa.S2.R
open Go.RowKit Spn

theorem new_at {w w1 : World} (hb : Below (w.alloc (.cells #[.int .i64 0, .int .i64 0] 52)).heap.size (w.alloc (.cells #[.int .i64 0, .int .i64 0] 52)) w1) :
    w1.cell? ⟨w.heap.size, 0, none⟩ = some (.int .i64 0) ∧ w1.cell? ⟨w.heap.size, 1, none⟩ = some (.int .i64 0) ∧ w1.frozen? ⟨w.heap.size, 0, none⟩ = false ∧ w1.frozen? ⟨w.heap.size, 1, none⟩ = false ∧ w.heap.size < w1.heap.size :=
  ⟨cell_keep hb (by rw [World.cell?_alloc_at _ _ _ _ rfl]; rfl), cell_keep hb (by rw [World.cell?_alloc_at _ _ _ _ rfl]; rfl),
    by rw [hb.frozen (by simp), World.frozen?_alloc_at _ _ _ _ rfl], by rw [hb.frozen (by simp), World.frozen?_alloc_at _ _ _ _ rfl], by have := hb.size; simp at this; omega⟩
theorem part_yes (l : List Sp) (a : Sp) (k : Nat) (h : k < l.length) (q1 q2 : Int) (hq : meet l[k] a = (q1, q2)) (hok : okB (q1, q2) = true) : partR (l.take (k + 1)) a = partR (l.take k) a ++ [(q1, q2)] := by
  rw [partR_take l _ k h, hq, if_pos ((okB_iff _).1 hok)]
theorem part_no (l : List Sp) (a : Sp) (k : Nat) (h : k < l.length) (q1 q2 : Int) (hq : meet l[k] a = (q1, q2)) (hok : okB (q1, q2) = false) : partR (l.take (k + 1)) a = partR (l.take k) a := by
  rw [partR_take l _ k h, hq, if_neg ((okB_not _).1 hok), List.append_nil]

set_option maxRecDepth 100000 in
set_option maxHeartbeats 3000000 in
theorem part_any (A : Option Addr) (n c : Nat) (l : List Sp) (x y : Int) (w : World) (h : Row w A l) (he : n = l.length) (hn : l.length ≤ 400000) :
    Calls Try.prog 36 #[.slice A n c, .agg #[.int .i64 x, .int .i64 y]] w (Gives w (partR l (x, y))) := by
  subst he
  have hbx := more (start w) (.cells #[.int .i64 x, .int .i64 y] 52)
  have HROW := hide (h.keep hbx)
  have HBX := hide hbx
  have hx0 : (w.alloc (.cells #[.int .i64 x, .int .i64 y] 52)).cell? ⟨w.heap.size, 0, none⟩ = some (.int .i64 x) := by rw [World.cell?_alloc_at _ _ _ _ rfl]; rfl
  have hx1 : (w.alloc (.cells #[.int .i64 x, .int .i64 y] 52)).cell? ⟨w.heap.size, 1, none⟩ = some (.int .i64 y) := by rw [World.cell?_alloc_at _ _ _ _ rfl]; rfl
  clear h hbx
  go_enter Try.func36, Try.ntmps36
  go_wp2_with fail
  generalize hW : w.alloc (.cells #[.int .i64 x, .int .i64 y] 52) = W at *
  clear hW
  go_loopw [5, 6] (fun v i wr => ∃ k : Nat, k ≤ l.length ∧ i = .int .i64 k ∧ Own wr W.heap.size v (partR (l.take k) (x, y)) ∧ Below W.heap.size W wr) (fun _ i _ => l.length - (intOf i).toNat)
  case atStart => exact ⟨0, Nat.zero_le _, rfl, own_nil _ _, start _⟩
  case round =>
    obtain ⟨k, hk, rfl, hown, hbw⟩ := hrel
    have hsz := hbw.size
    by_cases hlt : k < l.length
    · obtain ⟨b, off, rfl, hb, hcl⟩ := HROW.out (by intro h0; rw [h0] at hlt; exact absurd hlt (Nat.not_lt_zero _))
      obtain ⟨d0, d1⟩ := hcl k hlt
      have HSk := hide (And.intro d0 (And.intro d1 (And.intro hx0 hx1)))
      have hpl := partR_len (l.take k) (x, y)
      have htl : (l.take k).length ≤ k := List.length_take_le _ _
      obtain ⟨q1, q2, hq⟩ : ∃ q1 q2, meet (l[k].1, l[k].2) (x, y) = (q1, q2) := ⟨_, _, rfl⟩
      have HQ := hide hq
      have HO := hide hown
      clear hown hcl d0 d1 hq
      go_wp2_with fail
      go_region_held3 (fun w' => w'.cell? ⟨b, off + k * 2, none⟩ = some (.int .i64 l[k].1) ∧ w'.cell? ⟨b, off + k * 2 + 1, none⟩ = some (.int .i64 l[k].2) ∧ w'.cell? ⟨w.heap.size, 0, none⟩ = some (.int .i64 x) ∧ w'.cell? ⟨w.heap.size, 1, none⟩ = some (.int .i64 y)) (first | exact keep4 (by assumption) HSk.out | exact keep4 hbw.drew HSk.out | exact keep4 (more hbw _).drew HSk.out | exact keep4 (more (by assumption) _) HSk.out | exact keep4 (Below.setCell (Below.setCell (by assumption) hsz _) hsz _) HSk.out) ((first
        | (go_at_call 53; (with_reducible refine (meet_is _ _ _ _ q1 q2 wr.drew HQ.out).mono ?_); rintro e w2 ⟨rfl, hb2⟩; have hk2 := hbw.trans ((andthen (start wr).drew hb2).mono hsz))
        | (go_at_call 53; (with_reducible refine (meet_is _ _ _ _ q1 q2 (wr.alloc (.cells #[.int .i64 0, .int .i64 0] 52)).drew HQ.out).mono ?_); rintro e w2 ⟨rfl, hb2⟩; have hb3 := andthen (start (wr.alloc (.cells #[.int .i64 0, .int .i64 0] 52))).drew hb2; have hk2 := hbw.trans ((andthen (more (start wr) _) hb3).mono hsz); obtain ⟨t0, t1, z0, z1, z2⟩ := new_at hb3)
        ))
      · go_wp2_with fail
        have hkc := more hk2 (.cells #[.int .i64 q1, .int .i64 q2] 52)
        have k0 : (w2.alloc (.cells #[.int .i64 q1, .int .i64 q2] 52)).cell? ⟨w2.heap.size, 0, none⟩ = some (.int .i64 q1) := by rw [World.cell?_alloc_at _ _ _ _ rfl]; rfl
        have k1 : (w2.alloc (.cells #[.int .i64 q1, .int .i64 q2] 52)).cell? ⟨w2.heap.size, 1, none⟩ = some (.int .i64 q2) := by rw [World.cell?_alloc_at _ _ _ _ rfl]; rfl
        have HOC := hide (Own.keep HO.out (andthen (andthen (start wr).drew hb2) (more (start w2) (.cells #[.int .i64 q1, .int .i64 q2] 52))))
        clear hb2 hbw
        rcases hok : okB (q1, q2)
        · have HOK := hide hok
          have HN := hide (part_no l (x, y) k hlt q1 q2 HQ.out hok)
          clear hok
          refine (is_at q1 q2 false _ HOK.out).mono ?_
          rintro e w4 ⟨rfl, hb4⟩
          have HO4 := hide (Own.keep HOC.out hb4)
          have HK4 := hide (hkc.trans (hb4.mono hkc.size))
          clear hb4
          go_wp2_with fail
          go_roundw
          case rel => exact ⟨k + 1, by omega, by go_num, by rw [HN.out]; exact HO4.out, HK4.out⟩
          case measure => simp [intOf]; omega
        · have HOK := hide hok
          have HN := hide (part_yes l (x, y) k hlt q1 q2 HQ.out hok)
          clear hok
          refine (is_at q1 q2 true _ HOK.out).mono ?_
          rintro e w4 ⟨rfl, hb4⟩
          have HO4 := hide (Own.keep HOC.out hb4)
          have hk4 := hkc.trans (hb4.mono hkc.size)
          have HK4 := hide hk4
          replace k0 := cell_keep hb4 k0
          replace k1 := cell_keep hb4 k1
          have hsz4 := hk4.size
          clear hb4 hk4
          go_wp2_with (at_builtin; refine wp_oneG (p := (q1, q2)) rfl _ _ rfl rfl rfl rfl HO4.out hsz4 (by omega) ?_; intro v5 w5 hown5 hgo5)
          have HO5 := hide hown5
          have HK5 := hide (hgo5.below' HO4.out HK4.out hsz4)
          clear hown5 hgo5
          go_roundw
          case rel => exact ⟨k + 1, by omega, by go_num, by rw [HN.out]; exact HO5.out, HK5.out⟩
          case measure => simp [intOf]; omega
      · go_wp2_with fail
        have hkc := (hk2.setCell (p := ⟨wr.heap.size, 0, none⟩) hsz (.int .i64 q1)).setCell (p := ⟨wr.heap.size, 1, none⟩) hsz (.int .i64 q2)
        have k0 : ((w2.setCell ⟨wr.heap.size, 0, none⟩ (.int .i64 q1)).setCell ⟨wr.heap.size, 1, none⟩ (.int .i64 q2)).cell? ⟨wr.heap.size, 0, none⟩ = some (.int .i64 q1) := (set2 t0 t1).1
        have k1 : ((w2.setCell ⟨wr.heap.size, 0, none⟩ (.int .i64 q1)).setCell ⟨wr.heap.size, 1, none⟩ (.int .i64 q2)).cell? ⟨wr.heap.size, 1, none⟩ = some (.int .i64 q2) := (set2 t0 t1).2
        have HOC := hide (Own.keep HO.out (((andthen (more (start wr) _) hb3).setCell (p := ⟨wr.heap.size, 0, none⟩) (Nat.le_refl _) (.int .i64 q1)).setCell (p := ⟨wr.heap.size, 1, none⟩) (Nat.le_refl _) (.int .i64 q2)))
        clear hb2 hb3 hbw t0 t1 z0 z1
        rcases hok : okB (q1, q2)
        · have HOK := hide hok
          have HN := hide (part_no l (x, y) k hlt q1 q2 HQ.out hok)
          clear hok
          refine (is_at q1 q2 false _ HOK.out).mono ?_
          rintro e w4 ⟨rfl, hb4⟩
          have HO4 := hide (Own.keep HOC.out hb4)
          have HK4 := hide (hkc.trans (hb4.mono hkc.size))
          clear hb4
          go_wp2_with fail
          go_roundw
          case rel => exact ⟨k + 1, by omega, by go_num, by rw [HN.out]; exact HO4.out, HK4.out⟩
          case measure => simp [intOf]; omega
        · have HOK := hide hok
          have HN := hide (part_yes l (x, y) k hlt q1 q2 HQ.out hok)
          clear hok
          refine (is_at q1 q2 true _ HOK.out).mono ?_
          rintro e w4 ⟨rfl, hb4⟩
          have HO4 := hide (Own.keep HOC.out hb4)
          have hk4 := hkc.trans (hb4.mono hkc.size)
          have HK4 := hide hk4
          replace k0 := cell_keep hb4 k0
          replace k1 := cell_keep hb4 k1
          have hsz4 := hk4.size
          clear hb4 hk4
          go_wp2_with (at_builtin; refine wp_oneG (p := (q1, q2)) rfl _ _ rfl rfl rfl rfl HO4.out hsz4 (by omega) ?_; intro v5 w5 hown5 hgo5)
          have HO5 := hide hown5
          have HK5 := hide (hgo5.below' HO4.out HK4.out hsz4)
          clear hown5 hgo5
          go_roundw
          case rel => exact ⟨k + 1, by omega, by go_num, by rw [HN.out]; exact HO5.out, HK5.out⟩
          case measure => simp [intOf]; omega
    · obtain rfl : k = l.length := by omega
      rw [List.take_length] at hown
      have HO := hide hown
      have HBR := hide hbw
      clear hown hbw
      go_wp2_with fail
      go_ret
      exact ⟨_, rfl, Own.low HO.out HBX.out.size, andthen HBX.out HBR.out⟩
end Go.Proofs.Ytphojcnehgdbmaa.S2.R

/- Walks of the reference of layer 2: Lack, Part. -/
import Derived.Test.YtkjkegjekfebpaaSnT
namespace Go.Proofs.Ytkjkegjekfebpaa.R
open Go.RowKit Spn

set_option maxRecDepth 100000 in
set_option maxHeartbeats 1600000 in
theorem lack_any (A : Option Addr) (n c : Nat) (l : List Sp) (x y : Int) (w : World) (h : Row w A l) (he : n = l.length) (hn : l.length ≤ 300000) :
    Calls Try.prog 19 #[.slice A n c, .agg #[.int .i64 x, .int .i64 y]] w (Gives w (lackR l (x, y))) := by
  subst he
  have hbx := more (start w) (.cells #[.int .i64 x, .int .i64 y] 25)
  have HROW := hide (h.keep hbx)
  have HBX := hide hbx
  have hx0 : (w.alloc (.cells #[.int .i64 x, .int .i64 y] 25)).cell? ⟨w.heap.size, 0, none⟩ = some (.int .i64 x) := by rw [World.cell?_alloc_at _ _ _ _ rfl]; rfl
  have hx1 : (w.alloc (.cells #[.int .i64 x, .int .i64 y] 25)).cell? ⟨w.heap.size, 1, none⟩ = some (.int .i64 y) := by rw [World.cell?_alloc_at _ _ _ _ rfl]; rfl
  have hl0 : lackR (l.take 0) (x, y) = if okB (x, y) = true then [(x, y)] else [] := by
    rw [List.take_zero]; unfold lackR; rw [List.foldl_nil]
    by_cases h : Ok (x, y)
    · rw [if_pos h, if_pos ((okB_iff _).2 h)]
    · rw [if_neg h, if_neg (by rw [okB_iff]; exact h)]
  clear h hbx
  cases hok : okB (x, y)
  all_goals
    have HK := hide hok
    rw [hok] at hl0
    have HL0 := hide hl0
    clear hok hl0
    go_enter Try.func19, Try.ntmps19
    go_wp2_with fail
    refine (is_at x y _ _ HK.out).mono ?_
    rintro e W0 ⟨rfl, hb0⟩
    have HB0 := hide (andthen HBX.out hb0)
    have HROW0 := hide (HROW.out.keep hb0)
    have s0 := cell_keep hb0 hx0
    have s1 := cell_keep hb0 hx1
    have ON := hide (own_new1 W0 (x, y) rfl)
    have hsz0 := Nat.le_refl W0.heap.size
    clear hb0 hx0 hx1 HROW
    go_wp2_with fail
    go_loopw [5, 6] (fun v i wr => ∃ k : Nat, k ≤ l.length ∧ i = .int .i64 k ∧ Own wr W0.heap.size v (lackR (l.take k) (x, y)) ∧ Below W0.heap.size W0 wr) (fun _ i _ => l.length - (intOf i).toNat)
    case atStart =>
      first
        | exact ⟨0, Nat.zero_le _, rfl, by rw [HL0.out]; exact own_nil _ _, start _⟩
        | exact ⟨0, Nat.zero_le _, rfl, by rw [HL0.out]; exact ON.out, more (start _) _⟩
    case round =>
      obtain ⟨k, hk, rfl, hown, hbw⟩ := hrel
      have hsz := hbw.size
      by_cases hlt : k < l.length
      · obtain ⟨b, off, rfl, hb, hcl⟩ := HROW0.out (by intro h0; rw [h0] at hlt; exact absurd hlt (Nat.not_lt_zero _))
        obtain ⟨d0, d1⟩ := hcl k hlt
        have e0 := (hbw.cell (p := ⟨b, _, none⟩) hb).trans d0
        have e1 := (hbw.cell (p := ⟨b, _, none⟩) hb).trans d1
        have hpl := lackR_len (l.take k) (x, y)
        have htl : (l.take k).length ≤ k := List.length_take_le _ _
        have HN : Hid (lackR (l.take (k + 1)) (x, y) = subR (lackR (l.take k) (x, y)) (l[k].1, l[k].2)) := hide (lackR_take l (x, y) k hlt)
        obtain ⟨A2, c2, rfl, hrow2⟩ := Own.row hown
        have HR2 := hide hrow2
        have HBR := hide hbw
        clear hown hcl d0 d1 hrow2 hbw
        go_wp2_with fail
        refine (sub_any A2 _ c2 (lackR (l.take k) (x, y)) l[k].1 l[k].2 _ HR2.out rfl (by omega)).mono ?_
        rintro e w2 ⟨v2, rfl, hown2, hb2⟩
        have HO2 := hide hown2
        have HB2 := hide hb2
        clear hown2 hb2
        go_wp2_with fail
        go_roundw
        case rel => exact ⟨k + 1, by omega, by go_num, by rw [HN.out]; exact Own.low HO2.out hsz, HBR.out.trans (HB2.out.mono hsz)⟩
        case measure => simp [intOf]; omega
      · obtain rfl : k = l.length := by omega
        rw [List.take_length] at hown
        have HO := hide hown
        have HBR := hide hbw
        clear hown hbw
        go_wp2_with fail
        go_ret
        exact ⟨_, rfl, Own.low HO.out HB0.out.size, andthen HB0.out HBR.out⟩

theorem new_at {w w1 : World} (hb : Below (w.alloc (.cells #[.int .i64 0, .int .i64 0] 25)).heap.size (w.alloc (.cells #[.int .i64 0, .int .i64 0] 25)) w1) :
    w1.cell? ⟨w.heap.size, 0, none⟩ = some (.int .i64 0) ∧ w1.cell? ⟨w.heap.size, 1, none⟩ = some (.int .i64 0) ∧ w1.frozen? ⟨w.heap.size, 0, none⟩ = false ∧ w1.frozen? ⟨w.heap.size, 1, none⟩ = false ∧ w.heap.size < w1.heap.size :=
  ⟨cell_keep hb (by rw [World.cell?_alloc_at _ _ _ _ rfl]; rfl), cell_keep hb (by rw [World.cell?_alloc_at _ _ _ _ rfl]; rfl),
    by rw [hb.frozen (by simp), World.frozen?_alloc_at _ _ _ _ rfl], by rw [hb.frozen (by simp), World.frozen?_alloc_at _ _ _ _ rfl], by have := hb.size; simp at this; omega⟩
theorem part_yes (l : List Sp) (a : Sp) (k : Nat) (h : k < l.length) (q1 q2 : Int) (hq : meet l[k] a = (q1, q2)) (hok : okB (q1, q2) = true) : partR (l.take (k + 1)) a = partR (l.take k) a ++ [(q1, q2)] := by
  rw [partR_take l _ k h, hq, if_pos ((okB_iff _).1 hok)]
theorem part_no (l : List Sp) (a : Sp) (k : Nat) (h : k < l.length) (q1 q2 : Int) (hq : meet l[k] a = (q1, q2)) (hok : okB (q1, q2) = false) : partR (l.take (k + 1)) a = partR (l.take k) a := by
  rw [partR_take l _ k h, hq, if_neg ((okB_not _).1 hok), List.append_nil]

set_option maxRecDepth 100000 in
set_option maxHeartbeats 3000000 in
theorem part_any (A : Option Addr) (n c : Nat) (l : List Sp) (x y : Int) (w : World) (h : Row w A l) (he : n = l.length) (hn : l.length ≤ 400000) :
    Calls Try.prog 18 #[.slice A n c, .agg #[.int .i64 x, .int .i64 y]] w (Gives w (partR l (x, y))) := by
  subst he
  have hbx := more (start w) (.cells #[.int .i64 x, .int .i64 y] 25)
  have HROW := hide (h.keep hbx)
  have HBX := hide hbx
  have hx0 : (w.alloc (.cells #[.int .i64 x, .int .i64 y] 25)).cell? ⟨w.heap.size, 0, none⟩ = some (.int .i64 x) := by rw [World.cell?_alloc_at _ _ _ _ rfl]; rfl
  have hx1 : (w.alloc (.cells #[.int .i64 x, .int .i64 y] 25)).cell? ⟨w.heap.size, 1, none⟩ = some (.int .i64 y) := by rw [World.cell?_alloc_at _ _ _ _ rfl]; rfl
  clear h hbx
  go_enter Try.func18, Try.ntmps18
  go_wp2_with fail
  generalize hW : w.alloc (.cells #[.int .i64 x, .int .i64 y] 25) = W at *
  clear hW
  go_loopw [5, 6] (fun v i wr => ∃ k : Nat, k ≤ l.length ∧ i = .int .i64 k ∧ Own wr W.heap.size v (partR (l.take k) (x, y)) ∧ Below W.heap.size W wr) (fun _ i _ => l.length - (intOf i).toNat)
  case atStart => exact ⟨0, Nat.zero_le _, rfl, own_nil _ _, start _⟩
  case round =>
    obtain ⟨k, hk, rfl, hown, hbw⟩ := hrel
    have hsz := hbw.size
    by_cases hlt : k < l.length
    · obtain ⟨b, off, rfl, hb, hcl⟩ := HROW.out (by intro h0; rw [h0] at hlt; exact absurd hlt (Nat.not_lt_zero _))
      obtain ⟨d0, d1⟩ := hcl k hlt
      have HSk := hide (And.intro d0 (And.intro d1 (And.intro hx0 hx1)))
      have hpl := partR_len (l.take k) (x, y)
      have htl : (l.take k).length ≤ k := List.length_take_le _ _
      obtain ⟨q1, q2, hq⟩ : ∃ q1 q2, meet (l[k].1, l[k].2) (x, y) = (q1, q2) := ⟨_, _, rfl⟩
      have HQ := hide hq
      have HO := hide hown
      clear hown hcl d0 d1 hq
      go_wp2_with fail
      go_region_held3 (fun w' => w'.cell? ⟨b, off + k * 2, none⟩ = some (.int .i64 l[k].1) ∧ w'.cell? ⟨b, off + k * 2 + 1, none⟩ = some (.int .i64 l[k].2) ∧ w'.cell? ⟨w.heap.size, 0, none⟩ = some (.int .i64 x) ∧ w'.cell? ⟨w.heap.size, 1, none⟩ = some (.int .i64 y)) (first | exact keep4 (by assumption) HSk.out | exact keep4 hbw.drew HSk.out | exact keep4 (more hbw _).drew HSk.out | exact keep4 (more (by assumption) _) HSk.out | exact keep4 (Below.setCell (Below.setCell (by assumption) hsz _) hsz _) HSk.out) ((first
        | (go_at_call 41; (with_reducible refine (meet_is _ _ _ _ q1 q2 wr.drew HQ.out).mono ?_); rintro e w2 ⟨rfl, hb2⟩; have hk2 := hbw.trans ((andthen (start wr).drew hb2).mono hsz))
        | (go_at_call 41; (with_reducible refine (meet_is _ _ _ _ q1 q2 (wr.alloc (.cells #[.int .i64 0, .int .i64 0] 25)).drew HQ.out).mono ?_); rintro e w2 ⟨rfl, hb2⟩; have hb3 := andthen (start (wr.alloc (.cells #[.int .i64 0, .int .i64 0] 25))).drew hb2; have hk2 := hbw.trans ((andthen (more (start wr) _) hb3).mono hsz); obtain ⟨t0, t1, z0, z1, z2⟩ := new_at hb3)
        ))
      · go_wp2_with fail
        have hkc := more hk2 (.cells #[.int .i64 q1, .int .i64 q2] 25)
        have k0 : (w2.alloc (.cells #[.int .i64 q1, .int .i64 q2] 25)).cell? ⟨w2.heap.size, 0, none⟩ = some (.int .i64 q1) := by rw [World.cell?_alloc_at _ _ _ _ rfl]; rfl
        have k1 : (w2.alloc (.cells #[.int .i64 q1, .int .i64 q2] 25)).cell? ⟨w2.heap.size, 1, none⟩ = some (.int .i64 q2) := by rw [World.cell?_alloc_at _ _ _ _ rfl]; rfl
        have HOC := hide (Own.keep HO.out (andthen (andthen (start wr).drew hb2) (more (start w2) (.cells #[.int .i64 q1, .int .i64 q2] 25))))
        clear hb2 hbw
        rcases hok : okB (q1, q2)
        · have HOK := hide hok
          have HN := hide (part_no l (x, y) k hlt q1 q2 HQ.out hok)
          clear hok
          refine (is_at q1 q2 false _ HOK.out).mono ?_
          rintro e w4 ⟨rfl, hb4⟩
          have HO4 := hide (Own.keep HOC.out hb4)
          have HK4 := hide (hkc.trans (hb4.mono hkc.size))
          clear hb4
          go_wp2_with fail
          go_roundw
          case rel => exact ⟨k + 1, by omega, by go_num, by rw [HN.out]; exact HO4.out, HK4.out⟩
          case measure => simp [intOf]; omega
        · have HOK := hide hok
          have HN := hide (part_yes l (x, y) k hlt q1 q2 HQ.out hok)
          clear hok
          refine (is_at q1 q2 true _ HOK.out).mono ?_
          rintro e w4 ⟨rfl, hb4⟩
          have HO4 := hide (Own.keep HOC.out hb4)
          have hk4 := hkc.trans (hb4.mono hkc.size)
          have HK4 := hide hk4
          replace k0 := cell_keep hb4 k0
          replace k1 := cell_keep hb4 k1
          have hsz4 := hk4.size
          clear hb4 hk4
          go_wp2_with (at_builtin; refine wp_oneG (p := (q1, q2)) rfl _ _ rfl rfl rfl rfl HO4.out hsz4 (by omega) ?_; intro v5 w5 hown5 hgo5)
          have HO5 := hide hown5
          have HK5 := hide (hgo5.below' HO4.out HK4.out hsz4)
          clear hown5 hgo5
          go_roundw
          case rel => exact ⟨k + 1, by omega, by go_num, by rw [HN.out]; exact HO5.out, HK5.out⟩
          case measure => simp [intOf]; omega
      · go_wp2_with fail
        have hkc := (hk2.setCell (p := ⟨wr.heap.size, 0, none⟩) hsz (.int .i64 q1)).setCell (p := ⟨wr.heap.size, 1, none⟩) hsz (.int .i64 q2)
        have k0 : ((w2.setCell ⟨wr.heap.size, 0, none⟩ (.int .i64 q1)).setCell ⟨wr.heap.size, 1, none⟩ (.int .i64 q2)).cell? ⟨wr.heap.size, 0, none⟩ = some (.int .i64 q1) := (set2 t0 t1).1
        have k1 : ((w2.setCell ⟨wr.heap.size, 0, none⟩ (.int .i64 q1)).setCell ⟨wr.heap.size, 1, none⟩ (.int .i64 q2)).cell? ⟨wr.heap.size, 1, none⟩ = some (.int .i64 q2) := (set2 t0 t1).2
        have HOC := hide (Own.keep HO.out (((andthen (more (start wr) _) hb3).setCell (p := ⟨wr.heap.size, 0, none⟩) (Nat.le_refl _) (.int .i64 q1)).setCell (p := ⟨wr.heap.size, 1, none⟩) (Nat.le_refl _) (.int .i64 q2)))
        clear hb2 hb3 hbw t0 t1 z0 z1
        rcases hok : okB (q1, q2)
        · have HOK := hide hok
          have HN := hide (part_no l (x, y) k hlt q1 q2 HQ.out hok)
          clear hok
          refine (is_at q1 q2 false _ HOK.out).mono ?_
          rintro e w4 ⟨rfl, hb4⟩
          have HO4 := hide (Own.keep HOC.out hb4)
          have HK4 := hide (hkc.trans (hb4.mono hkc.size))
          clear hb4
          go_wp2_with fail
          go_roundw
          case rel => exact ⟨k + 1, by omega, by go_num, by rw [HN.out]; exact HO4.out, HK4.out⟩
          case measure => simp [intOf]; omega
        · have HOK := hide hok
          have HN := hide (part_yes l (x, y) k hlt q1 q2 HQ.out hok)
          clear hok
          refine (is_at q1 q2 true _ HOK.out).mono ?_
          rintro e w4 ⟨rfl, hb4⟩
          have HO4 := hide (Own.keep HOC.out hb4)
          have hk4 := hkc.trans (hb4.mono hkc.size)
          have HK4 := hide hk4
          replace k0 := cell_keep hb4 k0
          replace k1 := cell_keep hb4 k1
          have hsz4 := hk4.size
          clear hb4 hk4
          go_wp2_with (at_builtin; refine wp_oneG (p := (q1, q2)) rfl _ _ rfl rfl rfl rfl HO4.out hsz4 (by omega) ?_; intro v5 w5 hown5 hgo5)
          have HO5 := hide hown5
          have HK5 := hide (hgo5.below' HO4.out HK4.out hsz4)
          clear hown5 hgo5
          go_roundw
          case rel => exact ⟨k + 1, by omega, by go_num, by rw [HN.out]; exact HO5.out, HK5.out⟩
          case measure => simp [intOf]; omega
    · obtain rfl : k = l.length := by omega
      rw [List.take_length] at hown
      have HO := hide hown
      have HBR := hide hbw
      clear hown hbw
      go_wp2_with fail
      go_ret
      exact ⟨_, rfl, Own.low HO.out HBX.out.size, andthen HBX.out HBR.out⟩
end Go.Proofs.Ytkjkegjekfebpaa.R

/- TnK; TnL; TnM of the recipes, what is needed of them. -/
import Derived.Test.YtphojcnehgdbmaaBS8
namespace Go.Proofs.Ytphojcnehgdbmaa.S2
open Go.RowKit Spn Go.Sort

theorem Row.front {w : World} {A : Option Addr} {l r : List Sp} (h : Row w A (l ++ r)) : Row w A l := fun hl => by
  obtain ⟨b, off, e, hb, hc⟩ := h (by simp [hl])
  refine ⟨b, off, e, hb, fun i hi => ?_⟩
  have := hc i (by simp; omega)
  rw [List.getElem_append_left hi] at this
  exact this
theorem row_back {w : World} {b off k off2 : Nat} {l r : List Sp} (hb : b < w.heap.size) (hk : k = l.length) (ho : off2 = off + k * 2)
    (hc : ∀ i (h : i < (l ++ r).length), w.cell? ⟨b, off + i * 2, none⟩ = some (.int .i64 (l ++ r)[i].1) ∧ w.cell? ⟨b, off + i * 2 + 1, none⟩ = some (.int .i64 (l ++ r)[i].2)) :
    Row w (some ⟨b, off2, none⟩) r := fun _ => by
  subst hk ho
  refine ⟨b, off + l.length * 2, rfl, hb, fun i hi => ?_⟩
  have := hc (l.length + i) (by simp; omega)
  rw [List.getElem_append_right (by omega)] at this
  simp only [Nat.add_sub_cancel_left] at this
  rw [show off + l.length * 2 + i * 2 = off + (l.length + i) * 2 by omega]
  exact this
/-- a set is made. -/
def NewSet (W : World) (l : List Sp) (e : Ending) (w : World) : Prop := ∃ g, e = .returned (.pointer (some ⟨g, 0, none⟩)) ∧ W.heap.size ≤ g ∧ SetAt w g l ∧ Below W.heap.size W w
theorem set_new (w : World) (p : Option Addr) (t : Tr) (h : Tree w p t) (hb : t.Bal) (hn : Neat t.row) : SetAt (w.alloc (.cells #[.pointer p] 69)) w.heap.size t.row :=
  ⟨p, t, heap_alloc_new _ _, h.keep (more (start _) _), rfl, hb, hn⟩
theorem new_any (w : World) : Calls Try.prog 24 #[] w (NewSet w []) := by
  go_enter Try.func24, Try.ntmps24
  go_wp2_with fail
  go_ret
  exact ⟨_, rfl, Nat.le_refl _, set_new w none .nil rfl trivial trivial, more (start _) _⟩
set_option maxHeartbeats 400000 in
theorem copy_any (g : Nat) (l : List Sp) (w : World) (h : SetAt w g l) : Calls Try.prog 49 #[.pointer (some ⟨g, 0, none⟩)] w (NewSet w l) := by
  have HN := hide h.neat
  obtain ⟨p, t, c0, ht, hrow, hbal⟩ := h.root
  subst hrow
  have HT := hide ht
  have HB := hide hbal
  clear h ht hbal
  go_enter Try.func49, Try.ntmps49
  go_wp2_with fail
  go_ret
  exact ⟨_, rfl, Nat.le_refl _, set_new w p t HT.out HB.out HN.out, more (start _) _⟩
end Go.Proofs.Ytphojcnehgdbmaa.S2
namespace Go.Proofs.Ytphojcnehgdbmaa.S2
open Go.RowKit Spn
open Go.Sort (grow)

/-- how the search stands at a tree: all spans of the row that meet a lie in it. -/
def Stand (l : List Sp) (a : Sp) (t : Tr) : Prop := (∀ b, b ∈ l → Ok (meet b a) → b ∈ t.row) ∧ (∀ b, b ∈ t.row → b ∈ l) ∧ Neat t.row
theorem stand_start (t : Tr) (a : Sp) (h : Neat t.row) : Stand t.row a t := ⟨fun _ h _ => h, fun _ h => h, h⟩
theorem stand_end (l : List Sp) (a : Sp) (h : Stand l a .nil) : MetBy l a (0, 0) := Or.inr ⟨rfl, fun b hb hk => by have := h.1 b hb hk; simp [Tr.row] at this⟩
theorem stand_hit (ll : List Sp) (a n : Sp) (l r : Tr) (h : Stand ll a (.node l n r)) (hk : okB (meet n a) = true) : MetBy ll a n := Or.inl ⟨h.2.1 n (by simp [Tr.row]), (okB_iff _).1 hk⟩
theorem stand_left (ll : List Sp) (a n : Sp) (l r : Tr) (h : Stand ll a (.node l n r)) (hk : okB (meet n a) = false) (hlt : a.1 < n.1) : Stand ll a l := by
  obtain ⟨h1, h2, h3⟩ := h
  obtain ⟨g1, g2, g3, g4, g5⟩ := neat_mid _ _ _ (show Neat (l.row ++ n :: r.row) from h3)
  have hk := (okB_not _).1 hk
  rw [ok_meet] at hk
  refine ⟨fun b hb hm => ?_, fun b hb => h2 b (by simp [Tr.row, hb]), g4⟩
  have hm' := (ok_meet b a).1 hm
  rcases List.mem_append.1 (show b ∈ l.row ++ n :: r.row from h1 b hb hm) with hc | hc
  · exact hc
  · exfalso
    apply hk
    have hn := g1
    unfold Ok at g1
    rcases List.mem_cons.1 hc with rfl | hc
    · exact hm'
    · have := g3 b hc
      exact ⟨hn, hm'.2.1, by omega⟩
theorem stand_right (ll : List Sp) (a n : Sp) (l r : Tr) (h : Stand ll a (.node l n r)) (hk : okB (meet n a) = false) (hlt : ¬ a.1 < n.1) : Stand ll a r := by
  obtain ⟨h1, h2, h3⟩ := h
  obtain ⟨g1, g2, g3, g4, g5⟩ := neat_mid _ _ _ (show Neat (l.row ++ n :: r.row) from h3)
  have hk := (okB_not _).1 hk
  rw [ok_meet] at hk
  refine ⟨fun b hb hm => ?_, fun b hb => h2 b (by simp [Tr.row, hb]), g5⟩
  have hm' := (ok_meet b a).1 hm
  rcases List.mem_append.1 (show b ∈ l.row ++ n :: r.row from h1 b hb hm) with hc | hc
  · exfalso
    have := g2 b hc
    omega
  · rcases List.mem_cons.1 hc with rfl | hc
    · exact absurd hm' hk
    · exact hc
/-- what meeting tells. -/
def Tells (l : List Sp) (a : Sp) (W : World) (e : Ending) (w : World) : Prop := ∃ x y : Int, e = .returned (.agg #[.int .i64 x, .int .i64 y]) ∧ MetBy l a (x, y) ∧ Below W.heap.size W w
/-- the loop of meeting. -/
def Srch (w : World) (l : List Sp) (a : Sp) (v : Value) : Prop := ∃ p t, v = .pointer p ∧ Tree w p t ∧ Stand l a t

set_option maxRecDepth 100000 in
set_option maxHeartbeats 4000000 in
theorem meeting_any (g : Nat) (l : List Sp) (x y : Int) (w : World) (h : SetAt w g l) :
    Calls Try.prog 70 #[.pointer (some ⟨g, 0, none⟩), .agg #[.int .i64 x, .int .i64 y]] w (Tells l (x, y) w) := by
  have hn := h.neat
  obtain ⟨p, t, c0, ht, hrow, hbal⟩ := h.root
  have hst : Srch w l (x, y) (.pointer p) := ⟨p, t, rfl, ht, by subst hrow; exact stand_start t _ hn⟩
  have HST := hide hst
  have hbx := more (more (start w) (.cells #[.int .i64 x, .int .i64 y] 52)) (.cells #[.int .i64 0, .int .i64 0] 52)
  have HBX := hide hbx
  have k0 := cell_keep hbx c0
  clear h hn ht hrow hbal hst hbx c0
  go_enter Try.func70, Try.ntmps70
  go_wp2_with fail
  go_loopw [5] (fun v wr => Srch w l (x, y) v ∧ Below ((w.alloc (.cells #[.int .i64 x, .int .i64 y] 52)).alloc (.cells #[.int .i64 0, .int .i64 0] 52)).heap.size ((w.alloc (.cells #[.int .i64 x, .int .i64 y] 52)).alloc (.cells #[.int .i64 0, .int .i64 0] 52)) wr) (fun v _ => dep w v)
  case atStart => exact ⟨HST.out, start _⟩
  case round =>
    obtain ⟨⟨p1, t1, rfl, hT, hS⟩, hbw⟩ := hrel
    have hz : w.heap.size + 1 < wr.heap.size := by have := hbw.size; simp at this; omega
    have hz0 : w.heap.size < wr.heap.size := by omega
    have s0 : wr.cell? ⟨w.heap.size, 0, none⟩ = some (.int .i64 x) := by rw [hbw.cell (by simp only [World.size_alloc]; omega), World.cell?_alloc_past _ _ _ (by simp), World.cell?_alloc_at _ _ _ _ rfl]; rfl
    have s1 : wr.cell? ⟨w.heap.size, 1, none⟩ = some (.int .i64 y) := by rw [hbw.cell (by simp only [World.size_alloc]; omega), World.cell?_alloc_past _ _ _ (by simp), World.cell?_alloc_at _ _ _ _ rfl]; rfl
    have s2 : wr.cell? ⟨w.heap.size + 1, 0, none⟩ = some (.int .i64 0) := by rw [hbw.cell (by simp only [World.size_alloc]; omega), World.cell?_alloc_at _ _ _ _ (by simp)]; rfl
    have s3 : wr.cell? ⟨w.heap.size + 1, 1, none⟩ = some (.int .i64 0) := by rw [hbw.cell (by simp only [World.size_alloc]; omega), World.cell?_alloc_at _ _ _ _ (by simp)]; rfl
    have z0 : wr.frozen? ⟨w.heap.size + 1, 0, none⟩ = false := by rw [hbw.frozen (by simp only [World.size_alloc]; omega), World.frozen?_alloc_at _ _ _ _ (by simp)]
    have z1 : wr.frozen? ⟨w.heap.size + 1, 1, none⟩ = false := by rw [hbw.frozen (by simp only [World.size_alloc]; omega), World.frozen?_alloc_at _ _ _ _ (by simp)]
    have hbW : Below w.heap.size w wr := andthen HBX.out hbw
    cases t1 with
    | nil =>
      obtain rfl : p1 = none := hT
      have HE := hide (stand_end _ _ hS)
      clear hS
      have HBW := hide hbW
      have HB2 := hide hbw
      clear hbW hbw
      go_wp2_with fail
      exact bodyPost_ret (v := .agg #[.int .i64 0, .int .i64 0]) (by simp [results, Try.results70, go_sem, s2, s3]) rfl ⟨_, _, rfl, HE.out, ((HBW.out.setCell (Nat.le_succ _) _).setCell (Nat.le_succ _) _)⟩
    | node l1 a1 r1 =>
      obtain ⟨b, pl, pr, rfl, hn, hl, hr⟩ := hT
      obtain ⟨n1, n2⟩ := a1
      have hn2 := hn.keep hbW
      have m0 := hn2.c0
      have m1 := hn2.c1
      have m2 := hn2.c2
      have m3 := hn2.c3
      have hlt := hn.lt
      have hne : ¬ b = w.heap.size + 1 := by omega
      have HDEP := hide (fst_dep hn)
      have HL := hide hl
      have HR := hide hr
      have HS := hide hS
      have HBW := hide hbW
      have HB2 := hide hbw
      clear hn hn2 hl hr hS hbW hbw
      have f0 := fun d os => cell_regrown s0 d os
      have f1 := fun d os => cell_regrown s1 d os
      have f2 := fun d os => cell_regrown m0 d os
      have f3 := fun d os => cell_regrown m1 d os
      obtain ⟨q1, q2, hq⟩ : ∃ q1 q2, meet (n1, n2) (x, y) = (q1, q2) := ⟨_, _, rfl⟩
      have HQ := hide hq
      clear hq
      rcases hok : okB (q1, q2)
      · have HOK := hide hok
        go_wp2_with fail
        refine wp_region_quiet_below (by kernel_rfl) (by kernel_rfl) ?_
        repeat (first
          | go_big_quiet_step ((first | (go_at_call 68; exact Calls.regrown_of (meet_is _ _ _ _ q1 q2 _ HQ.out)) | (go_at_call 40; exact Calls.regrown_of (is_at q1 q2 false _ HOK.out))))
          | quiet_step ((first | (go_at_call 68; exact Calls.regrown_of (meet_is _ _ _ _ q1 q2 _ HQ.out)) | (go_at_call 40; exact Calls.regrown_of (is_at q1 q2 false _ HOK.out)))))
        refine wpQuiet_nil ?_
        intro _ hw'
        obtain ⟨⟨nq, osq⟩, hw''⟩ := hw'
        subst hw''
        have hbg := below_regrown wr nq osq
        replace s0 := cell_keep hbg s0
        replace s1 := cell_keep hbg s1
        replace s2 := cell_keep hbg s2
        replace s3 := cell_keep hbg s3
        replace m0 := cell_keep hbg m0
        replace m1 := cell_keep hbg m1
        replace m2 := cell_keep hbg m2
        replace m3 := cell_keep hbg m3
        replace z0 := (hbg.frozen (p := ⟨w.heap.size + 1, 0, none⟩) hz).trans z0
        replace z1 := (hbg.frozen (p := ⟨w.heap.size + 1, 1, none⟩) hz).trans z1
        replace hz := Nat.lt_of_lt_of_le hz hbg.size
        replace hz0 := Nat.lt_of_lt_of_le hz0 hbg.size
        have HBG := hide hbg
        clear hbg f0 f1 f2 f3
        generalize grow (redrawn wr nq) osq = W2 at *
        rcases (inferInstance : Decidable (x < n1)) with hc | hc
        · have d1 : decide (x < n1) = false := decide_eq_false hc
          have HS2 := hide (stand_right _ _ _ _ _ HS.out (by rw [HQ.out]; exact hok) hc)
          clear hc hok
          go_wp2_with fail
          go_quiet (fail)
          go_wp2_with fail
          go_roundw
          case rel => exact ⟨⟨_, _, rfl, HR.out, HS2.out⟩, below_drawn (andthen HB2.out HBG.out) _⟩
          case measure =>
            show dep w (.pointer pr) < dep w (.pointer (some ⟨b, 0, none⟩))
            rw [HDEP.out, dep_tree HR.out]
            simp only [Tr.deep]
            omega
        · have d1 : decide (x < n1) = true := decide_eq_true hc
          have HS2 := hide (stand_left _ _ _ _ _ HS.out (by rw [HQ.out]; exact hok) hc)
          clear hc hok
          go_wp2_with fail
          go_quiet (fail)
          go_wp2_with fail
          go_roundw
          case rel => exact ⟨⟨_, _, rfl, HL.out, HS2.out⟩, below_drawn (andthen HB2.out HBG.out) _⟩
          case measure =>
            show dep w (.pointer pl) < dep w (.pointer (some ⟨b, 0, none⟩))
            rw [HDEP.out, dep_tree HL.out]
            simp only [Tr.deep]
            omega
      · have HOK := hide hok
        have HE := hide (stand_hit _ _ _ _ _ HS.out (by rw [HQ.out]; exact hok))
        clear hok
        go_wp2_with fail
        refine wp_region_quiet_below (by kernel_rfl) (by kernel_rfl) ?_
        repeat (first
          | go_big_quiet_step ((first | (go_at_call 68; exact Calls.regrown_of (meet_is _ _ _ _ q1 q2 _ HQ.out)) | (go_at_call 40; exact Calls.regrown_of (is_at q1 q2 true _ HOK.out))))
          | quiet_step ((first | (go_at_call 68; exact Calls.regrown_of (meet_is _ _ _ _ q1 q2 _ HQ.out)) | (go_at_call 40; exact Calls.regrown_of (is_at q1 q2 true _ HOK.out)))))
        refine wpQuiet_nil ?_
        intro _ hw'
        obtain ⟨⟨nq, osq⟩, hw''⟩ := hw'
        subst hw''
        have hbg := below_regrown wr nq osq
        replace s0 := cell_keep hbg s0
        replace s1 := cell_keep hbg s1
        replace s2 := cell_keep hbg s2
        replace s3 := cell_keep hbg s3
        replace m0 := cell_keep hbg m0
        replace m1 := cell_keep hbg m1
        replace m2 := cell_keep hbg m2
        replace m3 := cell_keep hbg m3
        replace z0 := (hbg.frozen (p := ⟨w.heap.size + 1, 0, none⟩) hz).trans z0
        replace z1 := (hbg.frozen (p := ⟨w.heap.size + 1, 1, none⟩) hz).trans z1
        replace hz := Nat.lt_of_lt_of_le hz hbg.size
        replace hz0 := Nat.lt_of_lt_of_le hz0 hbg.size
        have HBG := hide hbg
        clear hbg f0 f1 f2 f3
        generalize grow (redrawn wr nq) osq = W2 at *
        go_wp2_with fail
        exact bodyPost_ret (v := .agg #[.int .i64 n1, .int .i64 n2]) (by simp [results, Try.results70, go_sem, s2, s3]) rfl ⟨_, _, rfl, HE.out, (((andthen HBW.out HBG.out).setCell (Nat.le_succ _) _).setCell (Nat.le_succ _) _)⟩
end Go.Proofs.Ytphojcnehgdbmaa.S2
namespace Go.Proofs.Ytphojcnehgdbmaa.S2
open Go.RowKit Spn

def hasB (l : List Sp) (a : Sp) : Bool := decide ((lackR l a).length = 0)
def meetsB (l : List Sp) (a : Sp) : Bool := decide (0 < (partR l a).length)

set_option maxRecDepth 100000 in
set_option maxHeartbeats 1600000 in
theorem has_any (g : Nat) (l : List Sp) (x y : Int) (w : World) (h : SetAt w g l) :
    Calls Try.prog 56 #[.pointer (some ⟨g, 0, none⟩), .agg #[.int .i64 x, .int .i64 y]] w fun e w' => e = .returned (.bool (hasB l (x, y))) ∧ Below w.heap.size w w' := by
  have hbx := more (start w) (.cells #[.int .i64 x, .int .i64 y] 52)
  have HN := hide h.neat
  have H := hide (h.keep hbx.drew)
  have HBX := hide hbx
  have HS : (w.alloc (.cells #[.int .i64 x, .int .i64 y] 52)).cell? ⟨w.heap.size, 0, none⟩ = some (.int .i64 x) ∧ (w.alloc (.cells #[.int .i64 x, .int .i64 y] 52)).cell? ⟨w.heap.size, 1, none⟩ = some (.int .i64 y) :=
    ⟨by rw [World.cell?_alloc_at _ _ _ _ rfl]; rfl, by rw [World.cell?_alloc_at _ _ _ _ rfl]; rfl⟩
  clear h hbx
  go_enter Try.func56, Try.ntmps56
  go_wp2_with fail
  go_region_held3 (fun w' => w'.cell? ⟨w.heap.size, 0, none⟩ = some (.int .i64 x) ∧ w'.cell? ⟨w.heap.size, 1, none⟩ = some (.int .i64 y)) (first | exact keep2 (by assumption) (by assumption) | exact keep2 (start _).drew (by assumption)) ((first
    | (go_at_call 70; (with_reducible refine (meeting_any g l x y _ H.out).mono ?_); rintro e w2 ⟨q1, q2, rfl, hM, hb2⟩)
    | (go_at_call 69; (with_reducible refine (within_any x y q1 q2 _).mono ?_); rintro e w3 ⟨rfl, hb3⟩)))
  go_wp2_with fail
  go_ret
  exact ⟨ret_bool (met_has l (x, y) (q1, q2) HN.out hM), andthen (andthen HBX.out.drew hb2) hb3⟩

theorem valid_eq (l : List Sp) (x y : Int) : l ++ valid [(x, y)] = if okB (x, y) = true then l ++ [(x, y)] else l := by
  rw [valid_one]
  cases h : okB (x, y)
  · rw [if_neg ((okB_not _).1 h)]; simp
  · rw [if_pos ((okB_iff _).1 h)]; simp
set_option maxRecDepth 100000 in
set_option maxHeartbeats 800000 in
theorem appendValid_any (B : Nat) (v : Value) (l : List Sp) (x y : Int) (w : World) (hown : Own w B v l) (hB : B ≤ w.heap.size) (hn : l.length ≤ 1000000) :
    Calls Try.prog 67 #[v, .agg #[.int .i64 x, .int .i64 y]] w (Adds w B v (l ++ valid [(x, y)])) := by
  have hbx := more (start w) (.cells #[.int .i64 x, .int .i64 y] 52)
  have HO := hide (Own.keep hown hbx)
  have HV := hide (valid_eq l x y)
  clear hown
  cases hok : okB (x, y)
  · have HK := hide hok
    have HE : Hid (l ++ valid [(x, y)] = l) := hide (by rw [HV.out, hok]; rfl)
    clear hok
    go_enter Try.func67, Try.ntmps67
    go_wp2_with fail
    refine (is_at x y false _ HK.out).mono ?_
    rintro e w1 ⟨rfl, hb1⟩
    go_wp2_with fail
    go_ret
    exact ⟨_, rfl, by rw [HE.out]; exact Own.keep HO.out hb1, Goes.below (andthen hbx hb1)⟩
  · have HK := hide hok
    have HE : Hid (l ++ valid [(x, y)] = l ++ [(x, y)]) := hide (by rw [HV.out, hok]; rfl)
    clear hok
    have s0 : (w.alloc (.cells #[.int .i64 x, .int .i64 y] 52)).cell? ⟨w.heap.size, 0, none⟩ = some (.int .i64 x) := by rw [World.cell?_alloc_at _ _ _ _ rfl]; rfl
    have s1 : (w.alloc (.cells #[.int .i64 x, .int .i64 y] 52)).cell? ⟨w.heap.size, 1, none⟩ = some (.int .i64 y) := by rw [World.cell?_alloc_at _ _ _ _ rfl]; rfl
    go_enter Try.func67, Try.ntmps67
    go_wp2_with fail
    refine (is_at x y true _ HK.out).mono ?_
    rintro e w1 ⟨rfl, hb1⟩
    have t0 := cell_keep hb1 s0
    have t1 := cell_keep hb1 s1
    have hown1 := hide (Own.keep HO.out hb1)
    have hB1 : B ≤ w1.heap.size := Nat.le_trans hB (andthen hbx hb1).size
    go_wp2_with (at_builtin; refine wp_oneG (p := (x, y)) rfl _ _ rfl rfl rfl rfl hown1.out hB1 hn ?_; intro v2 w2 hown2 hgo2)
    go_ret
    exact ⟨_, rfl, by rw [HE.out]; exact hown2, (Goes.below (andthen hbx hb1)).trans hgo2⟩
end Go.Proofs.Ytphojcnehgdbmaa.S2

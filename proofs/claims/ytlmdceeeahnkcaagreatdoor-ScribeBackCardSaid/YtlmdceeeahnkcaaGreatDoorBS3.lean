/- TpF; TpG; TpH of the recipes, what is needed of them. -/
import Derived.Shelf.SlSortCmp.NoneTotal
import Derived.Test.YtlmdceeeahnkcaaGreatDoorSort
import Derived.Lib.QuietBelow
import Derived.RegionTactic
import Derived.Test.YtlmdceeeahnkcaaGreatDoorBS2
namespace Go.Proofs.YtlmdceeeahnkcaaGreatDoor.S2
open Go.RowKit Spn Go.Shelf Go.Sort

/-- what cmp.Compare tells of two numbers. -/
def cmpI (x y : Int) : Int := if x < y then -1 else if y < x then 1 else 0
set_option maxHeartbeats 400000 in
theorem nan_any (x : Int) (w : World) : Calls Tryz.prog 190 #[.int .i64 x] w fun e w' => e = .returned (.bool false) ∧ w = w' := by
  go_enter Tryz.func190, Tryz.ntmps190
  go_wp2_with fail
  go_ret
  exact ⟨rfl, rfl⟩
set_option maxHeartbeats 400000 in
theorem cmp_any (x y : Int) (w : World) : Calls Tryz.prog 170 #[.int .i64 x, .int .i64 y] w fun e w' => e = .returned (.int .i64 (cmpI x y)) ∧ w = w' := by
  by_cases h1 : x < y
  · have e := hide (show cmpI x y = -1 by unfold cmpI; rw [if_pos h1])
    go_enter Tryz.func170, Tryz.ntmps170
    go_wp2_with (go_at_call 190; refine (nan_any _ _).mono ?_; rintro e w' ⟨rfl, rfl⟩)
    go_ret
    exact ⟨ret_int (by rw [e.out]), rfl⟩
  · by_cases h2 : y < x
    · have e := hide (show cmpI x y = 1 by unfold cmpI; rw [if_neg h1, if_pos h2])
      go_enter Tryz.func170, Tryz.ntmps170
      go_wp2_with (go_at_call 190; refine (nan_any _ _).mono ?_; rintro e w' ⟨rfl, rfl⟩)
      go_ret
      exact ⟨ret_int (by rw [e.out]), rfl⟩
    · have e := hide (show cmpI x y = 0 by unfold cmpI; rw [if_neg h1, if_neg h2])
      go_enter Tryz.func170, Tryz.ntmps170
      go_wp2_with (go_at_call 190; refine (nan_any _ _).mono ?_; rintro e w' ⟨rfl, rfl⟩)
      go_ret
      exact ⟨ret_int (by rw [e.out]), rfl⟩

/-- a span's two cells. -/
def encS (a : Sp) : List Value := [.int .i64 a.1, .int .i64 a.2]
abbrev fromS (x y : Sp) : Int := cmpI x.1 y.1
set_option maxHeartbeats 1000000 in
theorem byFrom_any (f t g u : Int) (w : World) : Calls Tryz.prog 169 #[.agg #[.int .i64 f, .int .i64 t], .agg #[.int .i64 g, .int .i64 u]] w fun e w' => e = .returned (.int .i64 (cmpI f g)) ∧ ∃ q os', w' = grow (w.drewN q) os' := by
  generalize hr : cmpI f g = r
  have HR := hide hr
  clear hr
  go_enter Tryz.func169, Tryz.ntmps169
  go_wp2_with (go_at_call 170; refine (cmp_any _ _ _).mono ?_; rintro e w' ⟨rfl, rfl⟩)
  go_ret
  exact ⟨ret_int HR.out, 0, _, by rw [alloc_eq_grow, alloc_eq_grow, grow_grow]; rfl⟩
theorem byFrom_lays (blk off size : Nat) (w : World) : CmpLays Tryz.prog 169 #[] encS 2 fromS blk off size w :=
  fun _ _ _ _ x y => byFrom_any x.1 x.2 y.1 y.2 _
theorem lt_from (x y : Sp) : ltOf fromS x y = decide (x.1 < y.1) := by
  unfold ltOf fromS cmpI
  by_cases h1 : x.1 < y.1
  · simp [h1]
  · by_cases h2 : y.1 < x.1 <;> simp [h1, h2]
theorem swo_from : SWO (ltOf fromS) where
  irrefl x := by rw [lt_from]; simp
  trans x y z h1 h2 := by rw [lt_from] at *; simp at *; omega
  ntrans x y z h1 h2 := by rw [lt_from] at *; simp at *; omega

theorem cellsL_at (l : List Sp) (t : Nat) (h : t < l.length * 2) : (cellsL l)[t]? = some (encS l.toArray[t / 2]!)[t % 2]! := by
  have hi : t / 2 < l.length := by omega
  obtain ⟨c1, c2⟩ := cellsL_get l (t / 2) hi
  have ei : l.toArray[t / 2]! = l[t / 2] := by simp [hi]
  rw [ei]
  rcases (by omega : t % 2 = 0 ∨ t % 2 = 1) with h2 | h2
  · rw [show t / 2 * 2 = t by omega] at c1
    rw [h2, c1]; simp [encS]
  · rw [show t / 2 * 2 + 1 = t by omega] at c2
    rw [h2, c2]; simp [encS]
theorem flat_cells (l : List Sp) : (flatK encS 2 l.toArray).toList = cellsL l := by
  apply List.ext_getElem?
  intro t
  by_cases h : t < l.length * 2
  · rw [cellsL_at l t h, Array.getElem?_toList]
    have h' : t < l.toArray.size * 2 := by simpa using h
    have e := get_flatK encS 2 l.toArray t h'
    have hs : t < (flatK encS 2 l.toArray).size := by rw [size_flatK]; exact h'
    rw [← e, Array.getElem?_eq_getElem hs, getElem!_pos _ t hs]
  · rw [List.getElem?_eq_none (l := cellsL l) (by rw [cellsL_len]; omega), List.getElem?_eq_none (by rw [Array.length_toList, size_flatK, List.size_toArray]; omega)]
theorem own_holds {w : World} {g n cap B : Nat} {l : List Sp} (h : Own w B (.slice (some ⟨g, 0, none⟩) n cap) l) : HoldsK encS 2 w g 0 l.toArray := by
  intro j hj
  have hj' : j < l.length * 2 := by simpa using hj
  have hc := World.ownsRow.cells h (g := g) rfl j _ (cellsL_at l j hj')
  rw [plus] at hc
  refine ⟨?_, ?_⟩
  · rw [Nat.zero_add, hc, get_flatK encS 2 l.toArray j (by simpa using hj')]; rfl
  · rcases h.2 with ⟨h1, _⟩ | ⟨g', cap', cur, h1, _, hg, _⟩
    · cases h1
    · injection h1 with h1 _ _
      injection h1 with h1
      injection h1 with h1 _ _
      subst h1
      simp [World.frozen?, hg]
theorem sorted_own {w : World} {g n cap B k : Nat} {l d : List Sp} {os : Array Obj} (h : Own w B (.slice (some ⟨g, 0, none⟩) n cap) l) (hl : d.length = l.length) :
    Own (sortWorldK encS 2 w g 0 k d.toArray os) B (.slice (some ⟨g, 0, none⟩) n cap) d ∧ w.grownBy (sortWorldK encS 2 w g 0 k d.toArray os) (some g) := by
  rcases h.2 with ⟨h1, _⟩ | ⟨g', cap', cur, h1, hb, hg, hnc, hcm, hcs, htake⟩
  · cases h1
  · injection h1 with h1 hn hcap
    injection h1 with h1
    injection h1 with h1 _ _
    subst h1 hn hcap
    have hlt : g < w.heap.size := (Array.getElem?_eq_some_iff.1 hg).1
    have hh : (sortWorldK encS 2 w g 0 k d.toArray os).heap[g]? = some (.cells (putCells id 0 (flatK encS 2 d.toArray) cur) 50 (0, 0)) := by
      unfold sortWorldK
      rw [heap_grow_old _ _ (by simpa [putRowK] using hlt)]
      simp [putRowK, putRow, mapBlock, Sort.ahead, Array.getElem?_modify, hg, onCells]
    refine ⟨⟨cellsL_len d, Or.inr ⟨g, cap, _, by rw [hl], hb, hh, by rw [hl]; exact hnc, hcm, by simp [putCells, hcs], ?_⟩⟩, ⟨rfl, rfl, rfl, ?_, ?_⟩⟩
    · rw [← flat_cells d]
      apply List.ext_getElem?
      intro j
      by_cases hj : j < d.length * 2
      · have hjc : j < cur.size := by rw [hcs]; have := hnc; rw [← hl] at this; omega
        rw [List.getElem?_take_of_lt hj, Array.getElem?_toList, Array.getElem?_toList]
        simp [putCells, hjc, hj]
      · rw [List.getElem?_take_eq_none (by omega), List.getElem?_eq_none (by simp; omega)]
    · unfold sortWorldK; rw [size_grow]; simp [putRowK]
    · intro j hj hne
      unfold sortWorldK
      rw [heap_grow_old _ _ (by simpa [putRowK] using hj)]
      have : g ≠ j := fun e => hne (by rw [e])
      simp [putRowK, putRow, mapBlock, Sort.ahead, Array.getElem?_modify, this]
theorem perm_of {l : List Sp} {d : Array Sp} (h : PermIn 0 l.toArray.size l.toArray d) : d.toList.Perm l := by
  obtain ⟨hs, _, hp⟩ := h
  have e1 : d.extract 0 l.toArray.size = d := by rw [← hs]; exact Array.extract_size
  have e2 : l.toArray.extract 0 l.toArray.size = l.toArray := Array.extract_size
  rw [e1, e2] at hp
  exact hp
theorem asc_of {n : Nat} {d : Array Sp} (hn : d.size = n) (h : SortedIn (ltOf fromS) 0 n d) : Asc d.toList := by
  unfold Asc
  rw [List.pairwise_iff_getElem]
  intro i j hi hj hij
  have h1 := h i j (Nat.zero_le _) hij (by rw [← hn]; simpa using hj)
  rw [lt_from] at h1
  have hi' : i < d.size := by simpa using hi
  have hj' : j < d.size := by simpa using hj
  rw [getElem!_pos d i hi', getElem!_pos d j hj'] at h1
  simp only [decide_eq_false_iff_not] at h1
  simp only [Array.getElem_toList]
  omega
/-- what the sort leaves. -/
def Sorts (W : World) (B : Nat) (v : Value) (l : List Sp) (e : Ending) (w : World) : Prop :=
  e = .returned (.tuple #[]) ∧ ∃ d : List Sp, d.Perm l ∧ Asc d ∧ d.length = l.length ∧ Own w B v d ∧ W.grownBy w v.ownBlock
theorem sort_any (B : Nat) (v : Value) (l : List Sp) (w : World) (h : Own w B v l) (hn : l.length ≤ 1000000) :
    Calls Tryz.prog 168 #[v, .func (.func 169) #[] #[]] w (Sorts w B v l) := by
  have h2 := h.2
  rcases h2 with ⟨rfl, h0⟩ | ⟨g, cap, cur, rfl, hb, hg, _⟩
  · have hl : l = [] := List.eq_nil_of_length_eq_zero h0
    subst hl
    refine (AnyF.slices_SortFunc_none { Tryz.sort1 with } none 0 (.func (.func 169) #[] #[]) w).mono ?_
    rintro e w' ⟨he, rfl⟩
    exact ⟨he, [], List.Perm.refl _, List.Pairwise.nil, rfl, h, World.grownBy.refl _ _⟩
  · have eg : ∀ args w, (callFunc 169 args).run Tryz.prog w = .ok (.enter 169 args) w := enters_of Tryz.func169 (by kernel_rfl) rfl
    have hcon := AnyQ.slices_SortFunc Tryz.sort1 2 Tryz.isAgg50 Tryz.sizeOf50 encS (fun _ => rfl) (fun x v hv => by simp [encS] at hv; rcases hv with rfl | rfl <;> rfl) fromS swo_from 169 #[] g 0 cap l.toArray w eg
      (byFrom_lays g 0 l.toArray.size w) (own_holds h) (Array.getElem?_eq_some_iff.1 hg).1 (by simp; omega)
    refine (show Calls Tryz.prog 168 _ _ _ from hcon).mono ?_
    rintro e w' ⟨he, d', n, os, hp, hs, rfl⟩
    have hlen : d'.toList.length = l.length := by have := hp.1; simpa using this
    have hso := sorted_own (k := n) (os := os) h hlen
    rw [Array.toArray_toList] at hso
    exact ⟨he, d'.toList, perm_of hp, asc_of hp.1 hs, hlen, hso.1, hso.2⟩

end Go.Proofs.YtlmdceeeahnkcaaGreatDoor.S2
namespace Go.Proofs.YtlmdceeeahnkcaaGreatDoor.S2
open Go.RowKit Spn Go.Sort

theorem Own.snoc {w : World} {B : Nat} {v : Value} {o : List Sp} {z : Sp} (h : Own w B v (o ++ [z])) : ∃ g cap, v = .slice (some ⟨g, 0, none⟩) (o.length + 1) cap ∧ B ≤ g ∧ g < w.heap.size := by
  rcases h.2 with ⟨_, h0⟩ | ⟨g, cap, cur, h1, hb, hg, _⟩
  · simp at h0
  · exact ⟨g, cap, by simpa using h1, hb, (Array.getElem?_eq_some_iff.1 hg).1⟩
theorem Own.nil_len {w : World} {B : Nat} {v : Value} (h : Own w B v []) : ∃ A cap, v = .slice A 0 cap := by
  rcases h.2 with ⟨h0, _⟩ | ⟨g, cap, cur, h1, _⟩
  · exact ⟨none, 0, h0⟩
  · exact ⟨_, cap, h1⟩
theorem Own.drew {w : World} {B : Nat} {v : Value} {l : List Sp} (h : Own w B v l) : Own w.drew B v l := h
theorem Own.last {w : World} {B g cap n : Nat} {o : List Sp} {z : Sp} (h : Own w B (.slice (some ⟨g, 0, none⟩) n cap) (o ++ [z])) :
    w.cell? ⟨g, o.length * 2, none⟩ = some (.int .i64 z.1) ∧ w.cell? ⟨g, o.length * 2 + 1, none⟩ = some (.int .i64 z.2) ∧ ∀ i, w.frozen? ⟨g, i, none⟩ = false := by
  have hc := World.ownsRow.cells h (g := g) rfl
  obtain ⟨c1, c2⟩ := cellsL_get (o ++ [z]) o.length (by simp)
  have g1 := hc _ _ c1
  have g2 := hc _ _ c2
  rw [plus] at g1 g2
  simp only [List.getElem_concat_length] at g1 g2
  refine ⟨g1, g2, fun i => ?_⟩
  rcases h.2 with ⟨h1, _⟩ | ⟨g', cap', cur, h1, _, hg, _⟩
  · cases h1
  · injection h1 with h1 _ _
    injection h1 with h1
    injection h1 with h1 _ _
    subst h1
    simp [World.frozen?, hg]
theorem Own.setLast {w : World} {B g cap n : Nat} {o : List Sp} {z : Sp} (h : Own w B (.slice (some ⟨g, 0, none⟩) n cap) (o ++ [z])) (y : Int) :
    Own (w.setCell ⟨g, o.length * 2 + 1, none⟩ (.int .i64 y)) B (.slice (some ⟨g, 0, none⟩) n cap) (o ++ [(z.1, y)]) := by
  rcases h.2 with ⟨h1, _⟩ | ⟨g', cap', cur, h1, hb, hg, hnc, hcm, hcs, htake⟩
  · cases h1
  · injection h1 with h1 hn hcap
    injection h1 with h1
    injection h1 with h1 _ _
    subst h1 hn hcap
    refine ⟨cellsL_len _, Or.inr ⟨g, cap, cur.setIfInBounds (o.length * 2 + 1) (.int .i64 y), by simp, hb, ?_, by simpa using hnc, hcm, by simpa using hcs, ?_⟩⟩
    · simp [World.setCell, Array.getElem?_modify, hg]
    · have e1 : cellsL (o ++ [z]) = cellsL o ++ [.int .i64 z.1, .int .i64 z.2] := by rw [cellsL_append]; rfl
      have e2 : cellsL (o ++ [(z.1, y)]) = (cellsL (o ++ [z])).set (o.length * 2 + 1) (.int .i64 y) := by
        rw [e1, cellsL_append, List.set_append_right _ _ (by rw [cellsL_len]; omega), cellsL_len, show o.length * 2 + 1 - o.length * 2 = 1 by omega]
        rfl
      rw [e2, ← htake]
      simp [List.take_set]

set_option maxRecDepth 100000 in
set_option maxHeartbeats 2000000 in
theorem union_any (A : Option Addr) (n c : Nat) (l : List Sp) (w : World) (h : Row w A l) (he : n = l.length) (hn : l.length ≤ 1000000) :
    Calls Tryz.prog 147 #[.slice A n c] w (Gives w (canon l)) := by
  have HR := hide h
  have HE := hide he
  clear h he
  go_enter Tryz.func147, Tryz.ntmps147
  go_wp2_with fail
  refine (valid_any A n c l _ HR.out HE.out hn).mono ?_
  rintro e w1 ⟨v1, rfl, hown1, hb1⟩
  have hvl := valid_len l
  go_wp2_with fail
  refine (sort_any w.heap.size v1 (valid l) w1 hown1 (by omega)).mono ?_
  rintro e w2 ⟨rfl, d, hp, hasc, hdl, hown2, hgr⟩
  have hmc := hide (mrg_canon l d hp hasc)
  have hb2 : Below w.heap.size w w2 := hb1.grown hgr hb1.size fun j hj => (hown1.lt j hj).1
  obtain ⟨A2, cap2, rfl, hrow⟩ := Own.row hown2
  clear hgr hown1 hp hasc
  go_wp2_with fail
  rw [← hdl]
  have hdn : d.length ≤ 1000000 := by omega
  clear hown2 hb1 hdl hvl
  by_cases hd : d = []
  · subst hd
    refine wp_loop_rounds 1 ?_
    rw [rounds_succ]
    go_wp2_with fail
    go_ret
    exact ⟨_, rfl, by rw [← hmc.out]; exact World.ownsRow_nil _ _ _ _, hb2⟩
  · obtain ⟨b, off, rfl, hb, hcl⟩ := hrow hd
    have HC := hide hcl
    clear hcl hrow hd
    go_loopw [4, 14] (fun v i wr => ∃ k : Nat, k ≤ d.length ∧ i = .int .i64 k ∧ Own wr w2.heap.size v (mrg (d.take k)) ∧ Below w2.heap.size w2 wr) (fun _ i _ => d.length - (intOf i).toNat)
    case atStart => exact ⟨0, Nat.zero_le _, rfl, World.ownsRow_nil _ _ _ _, start _⟩
    case round =>
      obtain ⟨k, hk, rfl, hown, hbw⟩ := hrel
      by_cases hlt : k < d.length
      · obtain ⟨c1, c2⟩ := HC.out k hlt
        obtain ⟨hc, hf⟩ := old hbw
        have hsz := hbw.size
        have hml := mrg_len (d.take k)
        have htl : (d.take k).length ≤ k := List.length_take_le _ _
        have hmt := mrg_take d k hlt
        generalize mrg (d.take k) = m at hown hml hmt ⊢
        rcases List.eq_nil_or_concat m with rfl | ⟨o, z, rfl⟩
        · have HM := hide hmt
          clear hmt
          obtain ⟨A4, cap4, rfl⟩ := Own.nil_len hown
          go_wp2_with fail
          go_quiet (fail)
          have hbb := below_drawn (more (start wr) (.cells #[.int .i64 d[k].1, .int .i64 d[k].2] 50)) nq
          have hown2 := Own.keep hown hbb
          have hNN : ((wr.alloc (.cells #[.int .i64 d[k].1, .int .i64 d[k].2] 50)).drewN nq).heap.size = wr.heap.size + 1 := by simp
          have hle : w2.heap.size ≤ ((wr.alloc (.cells #[.int .i64 d[k].1, .int .i64 d[k].2] 50)).drewN nq).heap.size := by omega
          have HNN := hide hNN
          clear hNN
          go_wp2_with (at_builtin; refine wp_one (p := d[k]) rfl _ _ rfl rfl HNN.out rfl hown2 hle (Nat.zero_le _) ?_; intro v2 w3 hown3 hbw3)
          go_roundw
          case rel => exact ⟨k + 1, by omega, by go_num, by rw [HM.out, put_nil]; exact hown3, (hbw.trans (hbb.mono hsz)).trans hbw3⟩
          case measure => simp [intOf]; omega
        · rw [List.concat_eq_append] at *
          obtain ⟨g, cap4, rfl, hg1, hg2⟩ := Own.snoc hown
          obtain ⟨q1, q2, q3⟩ := Own.last hown
          have hol : (o ++ [z]).length = o.length + 1 := by simp
          have hob : o.length + 1 ≤ 1000000 := by omega
          clear hol
          have HM := hide hmt
          have HT := hide (rfl : touchB (z.1, z.2) (d[k].1, d[k].2) = touchB (z.1, z.2) (d[k].1, d[k].2))
          clear hmt
          go_wp2_with fail
          generalize hW : wr.alloc (.cells #[.int .i64 d[k].1, .int .i64 d[k].2] 50) = W
          have f1 : ∀ d os, (grow (redrawn W d) os).cell? ⟨g, o.length * 2, none⟩ = some (.int .i64 z.1) := fun d os => cell_regrown (by rw [← hW, World.cell?_alloc_past _ _ _ hg2]; exact q1) d os
          have f2 : ∀ d os, (grow (redrawn W d) os).cell? ⟨g, o.length * 2 + 1, none⟩ = some (.int .i64 z.2) := fun d os => cell_regrown (by rw [← hW, World.cell?_alloc_past _ _ _ hg2]; exact q2) d os
          have f3 : ∀ e os, (grow (redrawn W e) os).cell? ⟨wr.heap.size, 0, none⟩ = some (.int .i64 d[k].1) := fun d os => cell_regrown (by rw [← hW, World.cell?_alloc_at _ _ _ _ rfl]; rfl) d os
          have f4 : ∀ e os, (grow (redrawn W e) os).cell? ⟨wr.heap.size, 1, none⟩ = some (.int .i64 d[k].2) := fun d os => cell_regrown (by rw [← hW, World.cell?_alloc_at _ _ _ _ rfl]; rfl) d os
          have HW := hide hW
          clear hW
          refine wp_region_quiet_below (by kernel_rfl) (by kernel_rfl) ?_
          repeat (first | go_big_quiet_step ((go_at_call 171; exact Calls.regrown_of (touch_any _ _ _ _ _))) | quiet_step ((go_at_call 171; exact Calls.regrown_of (touch_any _ _ _ _ _))))
          refine wpQuiet_nil ?_
          intro _ hw'
          obtain ⟨⟨nq, osq⟩, hw''⟩ := hw'
          subst hw''
          have hWW : Below wr.heap.size wr W := by rw [← HW.out]; exact more (start _) _
          have hbb : Below wr.heap.size wr (grow (redrawn W nq) osq) := andthen hWW (below_regrown W nq osq)
          have e1 := f1 nq osq
          have e2 := f2 nq osq
          have e3 := f3 nq osq
          have e4 := f4 nq osq
          have hown2 := Own.keep hown hbb
          have e5 := (Own.last hown2).2.2
          have hzz := hbb.size
          clear f1 f2 f3 f4 hWW HW
          generalize grow (redrawn W nq) osq = W2 at *
          generalize hT : touchB (z.1, z.2) (d[k].1, d[k].2) = tb
          cases tb
          · have HT2 : Hid (mrg (d.take (k + 1)) = o ++ [z] ++ [d[k]]) := by
              show mrg (d.take (k + 1)) = _
              rw [HM.out, put_snoc, if_neg]
              intro hc
              rw [show touchB (z.1, z.2) (d[k].1, d[k].2) = true from decide_eq_true hc] at hT
              cases hT
            clear hT
            have hle : w2.heap.size ≤ W2.heap.size := by omega
            go_wp2_with (at_builtin; refine wp_one (l := o ++ [z]) (p := d[k]) rfl _ _ rfl rfl rfl rfl hown2 hle (by simp; omega) ?_; intro v2 w3 hown3 hbw3)
            go_roundw
            case rel => exact ⟨k + 1, by omega, by go_num, by rw [HT2.out]; exact hown3, (hbw.trans (hbb.mono hsz)).trans hbw3⟩
            case measure => simp [intOf]; omega
          · have HT2 : Hid (mrg (d.take (k + 1)) = o ++ [(z.1, max z.2 d[k].2)]) := by
              show mrg (d.take (k + 1)) = _
              rw [HM.out, put_snoc, if_pos (of_decide_eq_true hT)]
            clear hT
            have hi0 : (0 : Int) ≤ (o.length : Int) := by omega
            have hi1 : (o.length : Int) < (o.length : Int) + 1 := by omega
            go_wp2_with fail
            go_region
            all_goals
              go_wp2_with fail
              go_roundw
              case rel => exact ⟨k + 1, by omega, by go_num, by rw [HT2.out]; exact Own.drew (Own.setLast hown2 _), ((hbw.trans (hbb.mono hsz)).setCell hg1 _).drew⟩
              case measure => simp [intOf]; omega
      · obtain rfl : k = d.length := by omega
        rw [List.take_length, hmc.out] at hown
        go_wp2_with fail
        go_ret
        exact Gives.of hown hb2.size (andthen hb2 hbw)

end Go.Proofs.YtlmdceeeahnkcaaGreatDoor.S2
namespace Go.Proofs.YtlmdceeeahnkcaaGreatDoor.S2
open Go.RowKit Spn Go.Sort

set_option maxHeartbeats 400000 in
theorem all_any (A : Option Addr) (n c : Nat) (l : List Sp) (w : World) (h : Row w A l) (he : n = l.length) (hn : l.length ≤ 1000000) :
    Calls Tryz.prog 116 #[.slice A n c] w (Gives w (canon l)) := by
  have HR := hide h
  have HE := hide he
  clear h he
  go_enter Tryz.func116, Tryz.ntmps116
  go_wp2_with fail
  refine (union_any A n c l _ HR.out HE.out hn).mono ?_
  rintro e w1 ⟨v, rfl, hown, hb⟩
  go_wp2_with fail
  go_ret
  exact ⟨v, rfl, hown, hb⟩

end Go.Proofs.YtlmdceeeahnkcaaGreatDoor.S2

/- The library's sort at a call's own row of spans, by where they begin. -/
import Derived.Test.YtkjkegjekfebpaaSpE
import Derived.Test.YtkjkegjekfebpaaShelf
import Derived.Shelf.SlSortCmp.NoneTotal
namespace Go.Proofs.Ytkjkegjekfebpaa
open Go.RowKit Spn Go.Shelf Go.Sort

/-- what cmp.Compare tells of two numbers. -/
def cmpI (x y : Int) : Int := if x < y then -1 else if y < x then 1 else 0
set_option maxHeartbeats 400000 in
theorem nan_any (x : Int) (w : World) : Calls Try.prog 65 #[.int .i64 x] w fun e w' => e = .returned (.bool false) ∧ w = w' := by
  go_enter Try.func65, Try.ntmps65
  go_wp2_with fail
  go_ret
  exact ⟨rfl, rfl⟩
set_option maxHeartbeats 400000 in
theorem cmp_any (x y : Int) (w : World) : Calls Try.prog 59 #[.int .i64 x, .int .i64 y] w fun e w' => e = .returned (.int .i64 (cmpI x y)) ∧ w = w' := by
  by_cases h1 : x < y
  · have e := hide (show cmpI x y = -1 by unfold cmpI; rw [if_pos h1])
    go_enter Try.func59, Try.ntmps59
    go_wp2_with (go_at_call 65; refine (nan_any _ _).mono ?_; rintro e w' ⟨rfl, rfl⟩)
    go_ret
    exact ⟨ret_int (by rw [e.out]), rfl⟩
  · by_cases h2 : y < x
    · have e := hide (show cmpI x y = 1 by unfold cmpI; rw [if_neg h1, if_pos h2])
      go_enter Try.func59, Try.ntmps59
      go_wp2_with (go_at_call 65; refine (nan_any _ _).mono ?_; rintro e w' ⟨rfl, rfl⟩)
      go_ret
      exact ⟨ret_int (by rw [e.out]), rfl⟩
    · have e := hide (show cmpI x y = 0 by unfold cmpI; rw [if_neg h1, if_neg h2])
      go_enter Try.func59, Try.ntmps59
      go_wp2_with (go_at_call 65; refine (nan_any _ _).mono ?_; rintro e w' ⟨rfl, rfl⟩)
      go_ret
      exact ⟨ret_int (by rw [e.out]), rfl⟩

/-- a span's two cells. -/
def encS (a : Sp) : List Value := [.int .i64 a.1, .int .i64 a.2]
abbrev fromS (x y : Sp) : Int := cmpI x.1 y.1
set_option maxHeartbeats 1000000 in
theorem byFrom_any (f t g u : Int) (w : World) : Calls Try.prog 58 #[.agg #[.int .i64 f, .int .i64 t], .agg #[.int .i64 g, .int .i64 u]] w fun e w' => e = .returned (.int .i64 (cmpI f g)) ∧ ∃ q os', w' = grow (w.drewN q) os' := by
  generalize hr : cmpI f g = r
  have HR := hide hr
  clear hr
  go_enter Try.func58, Try.ntmps58
  go_wp2_with (go_at_call 59; refine (cmp_any _ _ _).mono ?_; rintro e w' ⟨rfl, rfl⟩)
  go_ret
  exact ⟨ret_int HR.out, 0, _, by rw [alloc_eq_grow, alloc_eq_grow, grow_grow]; rfl⟩
theorem byFrom_lays (blk off size : Nat) (w : World) : CmpLays Try.prog 58 #[] encS 2 fromS blk off size w :=
  fun _ _ _ _ x y => byFrom_any x.1 x.2 y.1 y.2 _
theorem lt_from (x y : Sp) : ltOf fromS x y = decide (x.1 < y.1) := by
  unfold ltOf fromS cmpI
  by_cases h1 : x.1 < y.1
  · simp [h1]
  · by_cases h2 : y.1 < x.1 <;> simp [h1, h2]
theorem swo_from : SWO (ltOf fromS) where
  irrefl x := by rw [lt_from]; simp
  trans x y z h1 h2 := by rw [lt_from] at *; simp at *; omega
  ntrans x y z h1 h2 := by rw [lt_from] at *; simp at *; omega

theorem cellsL_at (l : List Sp) (t : Nat) (h : t < l.length * 2) : (cellsL l)[t]? = some (encS l.toArray[t / 2]!)[t % 2]! := by
  have hi : t / 2 < l.length := by omega
  obtain ⟨c1, c2⟩ := cellsL_get l (t / 2) hi
  have ei : l.toArray[t / 2]! = l[t / 2] := by simp [hi]
  rw [ei]
  rcases (by omega : t % 2 = 0 ∨ t % 2 = 1) with h2 | h2
  · rw [show t / 2 * 2 = t by omega] at c1
    rw [h2, c1]; simp [encS]
  · rw [show t / 2 * 2 + 1 = t by omega] at c2
    rw [h2, c2]; simp [encS]
theorem flat_cells (l : List Sp) : (flatK encS 2 l.toArray).toList = cellsL l := by
  apply List.ext_getElem?
  intro t
  by_cases h : t < l.length * 2
  · rw [cellsL_at l t h, Array.getElem?_toList]
    have h' : t < l.toArray.size * 2 := by simpa using h
    have e := get_flatK encS 2 l.toArray t h'
    have hs : t < (flatK encS 2 l.toArray).size := by rw [size_flatK]; exact h'
    rw [← e, Array.getElem?_eq_getElem hs, getElem!_pos _ t hs]
  · rw [List.getElem?_eq_none (l := cellsL l) (by rw [cellsL_len]; omega), List.getElem?_eq_none (by rw [Array.length_toList, size_flatK, List.size_toArray]; omega)]
theorem own_holds {w : World} {g n cap B : Nat} {l : List Sp} (h : Own w B (.slice (some ⟨g, 0, none⟩) n cap) l) : HoldsK encS 2 w g 0 l.toArray := by
  intro j hj
  have hj' : j < l.length * 2 := by simpa using hj
  have hc := World.ownsRow.cells h (g := g) rfl j _ (cellsL_at l j hj')
  rw [plus] at hc
  refine ⟨?_, ?_⟩
  · rw [Nat.zero_add, hc, get_flatK encS 2 l.toArray j (by simpa using hj')]; rfl
  · rcases h.2 with ⟨h1, _⟩ | ⟨g', cap', cur, h1, _, hg, _⟩
    · cases h1
    · injection h1 with h1 _ _
      injection h1 with h1
      injection h1 with h1 _ _
      subst h1
      simp [World.frozen?, hg]
theorem sorted_own {w : World} {g n cap B k : Nat} {l d : List Sp} {os : Array Obj} (h : Own w B (.slice (some ⟨g, 0, none⟩) n cap) l) (hl : d.length = l.length) :
    Own (sortWorldK encS 2 w g 0 k d.toArray os) B (.slice (some ⟨g, 0, none⟩) n cap) d ∧ w.grownBy (sortWorldK encS 2 w g 0 k d.toArray os) (some g) := by
  rcases h.2 with ⟨h1, _⟩ | ⟨g', cap', cur, h1, hb, hg, hnc, hcm, hcs, htake⟩
  · cases h1
  · injection h1 with h1 hn hcap
    injection h1 with h1
    injection h1 with h1 _ _
    subst h1 hn hcap
    have hlt : g < w.heap.size := (Array.getElem?_eq_some_iff.1 hg).1
    have hh : (sortWorldK encS 2 w g 0 k d.toArray os).heap[g]? = some (.cells (putCells id 0 (flatK encS 2 d.toArray) cur) 25 (0, 0)) := by
      unfold sortWorldK
      rw [heap_grow_old _ _ (by simpa [putRowK] using hlt)]
      simp [putRowK, putRow, mapBlock, Sort.ahead, Array.getElem?_modify, hg, onCells]
    refine ⟨⟨cellsL_len d, Or.inr ⟨g, cap, _, by rw [hl], hb, hh, by rw [hl]; exact hnc, hcm, by simp [putCells, hcs], ?_⟩⟩, ⟨rfl, rfl, rfl, ?_, ?_⟩⟩
    · rw [← flat_cells d]
      apply List.ext_getElem?
      intro j
      by_cases hj : j < d.length * 2
      · have hjc : j < cur.size := by rw [hcs]; have := hnc; rw [← hl] at this; omega
        rw [List.getElem?_take_of_lt hj, Array.getElem?_toList, Array.getElem?_toList]
        simp [putCells, hjc, hj]
      · rw [List.getElem?_take_eq_none (by omega), List.getElem?_eq_none (by simp; omega)]
    · unfold sortWorldK; rw [size_grow]; simp [putRowK]
    · intro j hj hne
      unfold sortWorldK
      rw [heap_grow_old _ _ (by simpa [putRowK] using hj)]
      have : g ≠ j := fun e => hne (by rw [e])
      simp [putRowK, putRow, mapBlock, Sort.ahead, Array.getElem?_modify, this]
theorem perm_of {l : List Sp} {d : Array Sp} (h : PermIn 0 l.toArray.size l.toArray d) : d.toList.Perm l := by
  obtain ⟨hs, _, hp⟩ := h
  have e1 : d.extract 0 l.toArray.size = d := by rw [← hs]; exact Array.extract_size
  have e2 : l.toArray.extract 0 l.toArray.size = l.toArray := Array.extract_size
  rw [e1, e2] at hp
  exact hp
theorem asc_of {n : Nat} {d : Array Sp} (hn : d.size = n) (h : SortedIn (ltOf fromS) 0 n d) : Asc d.toList := by
  unfold Asc
  rw [List.pairwise_iff_getElem]
  intro i j hi hj hij
  have h1 := h i j (Nat.zero_le _) hij (by rw [← hn]; simpa using hj)
  rw [lt_from] at h1
  have hi' : i < d.size := by simpa using hi
  have hj' : j < d.size := by simpa using hj
  rw [getElem!_pos d i hi', getElem!_pos d j hj'] at h1
  simp only [decide_eq_false_iff_not] at h1
  simp only [Array.getElem_toList]
  omega
/-- what the sort leaves. -/
def Sorts (W : World) (B : Nat) (v : Value) (l : List Sp) (e : Ending) (w : World) : Prop :=
  e = .returned (.tuple #[]) ∧ ∃ d : List Sp, d.Perm l ∧ Asc d ∧ d.length = l.length ∧ Own w B v d ∧ W.grownBy w v.ownBlock
theorem sort_any (B : Nat) (v : Value) (l : List Sp) (w : World) (h : Own w B v l) (hn : l.length ≤ 1000000) :
    Calls Try.prog 57 #[v, .func (.func 58) #[] #[]] w (Sorts w B v l) := by
  have h2 := h.2
  rcases h2 with ⟨rfl, h0⟩ | ⟨g, cap, cur, rfl, hb, hg, _⟩
  · have hl : l = [] := List.eq_nil_of_length_eq_zero h0
    subst hl
    refine (AnyF.slices_SortFunc_none { Try.sort1 with } none 0 (.func (.func 58) #[] #[]) w).mono ?_
    rintro e w' ⟨he, rfl⟩
    exact ⟨he, [], List.Perm.refl _, List.Pairwise.nil, rfl, h, World.grownBy.refl _ _⟩
  · have eg : ∀ args w, (callFunc 58 args).run Try.prog w = .ok (.enter 58 args) w := enters_of Try.func58 (by kernel_rfl) rfl
    have hcon := AnyQ.slices_SortFunc Try.sort1 2 Try.isAgg25 Try.sizeOf25 encS (fun _ => rfl) (fun x v hv => by simp [encS] at hv; rcases hv with rfl | rfl <;> rfl) fromS swo_from 58 #[] g 0 cap l.toArray w eg
      (byFrom_lays g 0 l.toArray.size w) (own_holds h) (Array.getElem?_eq_some_iff.1 hg).1 (by simp; omega)
    refine (show Calls Try.prog 57 _ _ _ from hcon).mono ?_
    rintro e w' ⟨he, d', n, os, hp, hs, rfl⟩
    have hlen : d'.toList.length = l.length := by have := hp.1; simpa using this
    have hso := sorted_own (k := n) (os := os) h hlen
    rw [Array.toArray_toList] at hso
    exact ⟨he, d'.toList, perm_of hp, asc_of hp.1 hs, hlen, hso.1, hso.2⟩

end Go.Proofs.Ytkjkegjekfebpaa

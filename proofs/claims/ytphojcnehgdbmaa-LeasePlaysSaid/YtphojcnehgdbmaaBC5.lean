/- Plain facts on leases: for each room a neat row of spans; what is added, cut, had, lacked. No program is named here. -/
import Derived.Test.YtphojcnehgdbmaaBM1
namespace Le
open Spn Cl

/-- the spans of each room. -/
abbrev Rm := Nat → List Sp
def putR (f : Rm) (r : Nat) (v : List Sp) (q : Nat) : List Sp := if q = r then v else f q
theorem putR_same (f : Rm) (r : Nat) (v : List Sp) : putR f r v r = v := if_pos rfl
theorem putR_other (f : Rm) (r q : Nat) (v : List Sp) (h : q ≠ r) : putR f r v q = f q := if_neg h
def addS (f : Rm) (c : C) : Rm := putR f c.1.toNat (addR (f c.1.toNat) c.2)
def cutS (f : Rm) (c : C) : Rm := putR f c.1.toNat (subR (f c.1.toNat) c.2)
def adds (f : Rm) (l : List C) : Rm := l.foldl addS f
def cuts (f : Rm) (l : List C) : Rm := l.foldl cutS f
def parts (f : Rm) (l : List C) : List C := l.flatMap fun c => tag c.1 (partR (f c.1.toNat) c.2)
def lacks (f : Rm) (l : List C) : List C := l.flatMap fun c => tag c.1 (lackR (f c.1.toNat) c.2)
def NeatR (f : Rm) : Prop := ∀ r, r < 8 → Neat (f r)
theorem hasC_nil (r m : Int) : ¬ HasC [] r m := by rintro ⟨s, h, _⟩; cases h
theorem hasC_cons (c : C) (l : List C) (r m : Int) : HasC (c :: l) r m ↔ (c.1 = r ∧ Ok c.2 ∧ c.2.1 ≤ m ∧ m < c.2.2) ∨ HasC l r m := by
  unfold HasC
  constructor
  · rintro ⟨s, hs, h⟩
    rcases List.mem_cons.1 hs with e | hs
    · exact Or.inl (by rw [← e]; exact ⟨rfl, h⟩)
    · exact Or.inr ⟨s, hs, h⟩
  · rintro (⟨h1, h2⟩ | ⟨s, hs, h⟩)
    · exact ⟨c.2, by rw [← h1]; exact List.mem_cons_self, h2⟩
    · exact ⟨s, List.mem_cons_of_mem _ hs, h⟩
theorem hasC_append (l k : List C) (r m : Int) : HasC (l ++ k) r m ↔ HasC l r m ∨ HasC k r m := by
  unfold HasC
  constructor
  · rintro ⟨s, hs, h⟩
    rcases List.mem_append.1 hs with hs | hs
    · exact Or.inl ⟨s, hs, h⟩
    · exact Or.inr ⟨s, hs, h⟩
  · rintro (⟨s, hs, h⟩ | ⟨s, hs, h⟩)
    · exact ⟨s, List.mem_append_left _ hs, h⟩
    · exact ⟨s, List.mem_append_right _ hs, h⟩
theorem addS_neat {f : Rm} (h : NeatR f) (c : C) : NeatR (addS f c) := fun r hr => by
  unfold addS putR
  split
  · rename_i e; rw [← e]; exact (addR_neat _ _ (h r hr)).1
  · exact h r hr
theorem cutS_neat {f : Rm} (h : NeatR f) (c : C) : NeatR (cutS f c) := fun r hr => by
  unfold cutS putR
  split
  · rename_i e; rw [← e]; exact subR_neat _ _ (h r hr)
  · exact h r hr
theorem adds_neat : ∀ (l : List C) {f : Rm}, NeatR f → NeatR (adds f l)
  | [], _, h => h
  | c :: l, _, h => adds_neat l (addS_neat h c)
theorem cuts_neat : ∀ (l : List C) {f : Rm}, NeatR f → NeatR (cuts f l)
  | [], _, h => h
  | c :: l, _, h => cuts_neat l (cutS_neat h c)
theorem adds_has : ∀ (l : List C) {f : Rm}, NeatR f → (∀ c ∈ l, 0 ≤ c.1) → ∀ r, r < 8 → ∀ m, Has (adds f l r) m ↔ Has (f r) m ∨ HasC l r m
  | [], f, _, _, r, _, m => ⟨Or.inl, fun h => h.elim id fun h => absurd h (hasC_nil _ _)⟩
  | c :: l, f, h, h0, r, hr, m => by
    have e : adds f (c :: l) = adds (addS f c) l := rfl
    rw [e, adds_has l (addS_neat h c) (fun d hd => h0 d (List.mem_cons_of_mem _ hd)) r hr m, hasC_cons]
    have hc := h0 c List.mem_cons_self
    unfold addS putR
    split
    · rename_i er
      rw [← er, (addR_neat _ _ (h r hr)).2 m, has_one, or_assoc]
      have : c.1 = (r : Int) := by omega
      simp [this]
    · rename_i er
      have : ¬ c.1 = (r : Int) := by omega
      simp [this]
theorem cuts_has : ∀ (l : List C) {f : Rm}, NeatR f → (∀ c ∈ l, 0 ≤ c.1) → ∀ r, r < 8 → ∀ m, Has (cuts f l r) m ↔ Has (f r) m ∧ ¬ HasC l r m
  | [], f, _, _, r, _, m => ⟨fun h => ⟨h, hasC_nil _ _⟩, fun h => h.1⟩
  | c :: l, f, h, h0, r, hr, m => by
    have e : cuts f (c :: l) = cuts (cutS f c) l := rfl
    rw [e, cuts_has l (cutS_neat h c) (fun d hd => h0 d (List.mem_cons_of_mem _ hd)) r hr m, hasC_cons]
    have hc := h0 c List.mem_cons_self
    unfold cutS putR
    split
    · rename_i er
      rw [← er, has_flat]
      have : c.1 = (r : Int) := by omega
      simp only [this, true_and, not_or, and_assoc]
    · rename_i er
      have : ¬ c.1 = (r : Int) := by omega
      simp [this]
theorem outC_lo (f : Rm) : ∀ c ∈ outC f, 0 ≤ c.1 ∧ c.1 < 8 := fun c hc => by
  obtain ⟨r, hr, h, _⟩ := (outC_mem f c).1 hc
  omega
theorem neatC_lo (l : List C) : ∀ c ∈ neatC l, 0 ≤ c.1 := fun c hc => (outC_lo _ c hc).1
theorem adds_is {f : Rm} (h : NeatR f) (c : List C) : outC (adds f (neatC c)) = neatC (outC f ++ c) :=
  outC_ext fun r hr => neat_ext _ _ (adds_neat _ h r hr) (neatF_neat _ r) fun m => by
    rw [adds_has _ h (neatC_lo c) r hr, neatF_has _ r hr, hasC_append, outC_has f r hr, neatC_has c r hr]
theorem cuts_is {f : Rm} (h : NeatR f) (c : List C) : outC (cuts f (neatC c)) = minusC (outC f) c :=
  outC_ext fun r hr => neat_ext _ _ (cuts_neat _ h r hr) (min_neatF _ _ r) fun m => by
    rw [cuts_has _ h (neatC_lo c) r hr, minF_has _ _ r hr, outC_has f r hr, neatC_has c r hr]
theorem flat_has (g : Sp → List Sp) (m : Int) : ∀ x : List Sp, Has (x.flatMap g) m ↔ ∃ a ∈ x, Has (g a) m
  | [] => ⟨fun h => absurd h (has_nil m), fun ⟨a, h, _⟩ => by cases h⟩
  | a :: x => by
    rw [List.flatMap_cons, has_append, flat_has g m x]
    constructor
    · rintro (h | ⟨b, hb, h⟩)
      · exact ⟨a, List.mem_cons_self, h⟩
      · exact ⟨b, List.mem_cons_of_mem _ hb, h⟩
    · rintro ⟨b, hb, h⟩
      rcases List.mem_cons.1 hb with rfl | hb
      · exact Or.inl h
      · exact Or.inr ⟨b, hb, h⟩
theorem flat_neat (g : Sp → List Sp) (h1 : ∀ a, Neat (g a)) (h2 : ∀ a m, Has (g a) m → a.1 ≤ m ∧ m < a.2) : ∀ x : List Sp, Neat x → Neat (x.flatMap g)
  | [], _ => trivial
  | a :: x, h => by
    rw [List.flatMap_cons]
    refine neat_append _ _ (h1 a) (flat_neat g h1 h2 x h.2.2) fun p hp q hq => ?_
    obtain ⟨b, hb, hq⟩ := List.mem_flatMap.1 hq
    have op := neat_ok _ (h1 a) p hp
    have oq := neat_ok _ (h1 b) q hq
    have h3 := h2 a (p.2 - 1) ⟨p, hp, op, by unfold Ok at op; omega, by omega⟩
    have h4 := h2 b q.1 ⟨q, hq, oq, by omega, by unfold Ok at oq; omega⟩
    have h5 := h.2.1 b hb
    omega
theorem tag_flat (r : Int) (g : Sp → List Sp) : ∀ x : List Sp, (tag r x).flatMap (fun c => tag c.1 (g c.2)) = tag r (x.flatMap g)
  | [] => rfl
  | a :: x => by
    have := tag_flat r g x
    unfold tag at this ⊢
    rw [List.map_cons, List.flatMap_cons, this, List.flatMap_cons, List.map_append]
theorem flat_out (x : Rm) (g : Nat → Sp → List Sp) : (outC x).flatMap (fun c => tag c.1 (g c.1.toNat c.2)) = outC fun r => (x r).flatMap (g r) := by
  unfold outC
  rw [List.flatMap_assoc]
  congr 1
  funext r
  rw [← tag_flat]
  have : ∀ y : List Sp, (tag (r : Int) y).flatMap (fun c => tag c.1 (g c.1.toNat c.2)) = (tag (r : Int) y).flatMap (fun c => tag c.1 (g r c.2)) := fun y => by
    induction y with
    | nil => rfl
    | cons a y ih =>
      unfold tag at ih ⊢
      rw [List.map_cons, List.flatMap_cons, List.flatMap_cons, ih]
      rfl
  exact this _
theorem parts_is {f : Rm} (h : NeatR f) (c : List C) : parts f (neatC c) = meetC c (outC f) := by
  unfold parts neatC
  rw [flat_out (neatF c) fun r s => partR (f r) s]
  refine outC_ext fun r hr => neat_ext _ _ (flat_neat _ (fun a => partR_neat _ _ (h r hr)) (fun a m hm => ((has_part _ _ _).1 hm).2.2) _ (neatF_neat c r)) (com_neatF _ _ r) fun m => ?_
  rw [flat_has, comF_has _ _ r hr, outC_has f r hr, ← neatF_has c r hr]
  constructor
  · rintro ⟨a, ha, hm⟩
    rw [has_part] at hm
    exact ⟨⟨a, ha, hm.2⟩, hm.1⟩
  · rintro ⟨⟨a, ha, hm⟩, h2⟩
    exact ⟨a, ha, (has_part _ _ _).2 ⟨h2, hm⟩⟩
theorem lacks_is (f : Rm) (c : List C) : lacks f (neatC c) = minusC c (outC f) := by
  unfold lacks neatC
  rw [flat_out (neatF c) fun r s => lackR (f r) s]
  refine outC_ext fun r hr => neat_ext _ _ (flat_neat _ (fun a => (lack_neat _ _).1) (fun a m hm => (((lack_neat _ _).2 m).1 hm).1.2) _ (neatF_neat c r)) (min_neatF _ _ r) fun m => ?_
  rw [flat_has, minF_has _ _ r hr, outC_has f r hr, ← neatF_has c r hr]
  constructor
  · rintro ⟨a, ha, hm⟩
    rw [(lack_neat _ _).2 m] at hm
    exact ⟨⟨a, ha, hm.1⟩, hm.2⟩
  · rintro ⟨⟨a, ha, hm⟩, h2⟩
    exact ⟨a, ha, ((lack_neat _ _).2 m).2 ⟨hm, h2⟩⟩
/-- no minute lacks. -/
def hasL (f : Rm) (l : List C) : Bool := l.all fun c => decide ((lackR (f c.1.toNat) c.2).length = 0)
theorem hasL_take (f : Rm) (l : List C) (k : Nat) (h : k < l.length) : hasL f (l.take (k + 1)) = (hasL f (l.take k) && decide ((lackR (f l[k].1.toNat) l[k].2).length = 0)) := by
  unfold hasL; rw [List.take_succ_eq_append_getElem h, List.all_append]; simp
theorem hasL_no (f : Rm) (l : List C) (k : Nat) (h : k < l.length) (hb : decide ((lackR (f l[k].1.toNat) l[k].2).length = 0) = false) : hasL f l = false := by
  unfold hasL
  rw [List.all_eq_false]
  exact ⟨l[k], List.getElem_mem h, by rw [hb]; simp⟩
theorem hasL_lacks (f : Rm) : ∀ l : List C, hasL f l = decide ((lacks f l).length = 0)
  | [] => rfl
  | c :: l => by
    have ih := hasL_lacks f l
    have e1 : hasL f (c :: l) = (decide ((lackR (f c.1.toNat) c.2).length = 0) && hasL f l) := rfl
    have e2 : lacks f (c :: l) = tag c.1 (lackR (f c.1.toNat) c.2) ++ lacks f l := rfl
    have e3 : (tag c.1 (lackR (f c.1.toNat) c.2)).length = (lackR (f c.1.toNat) c.2).length := by unfold tag; rw [List.length_map]
    rw [e1, e2, ih, List.length_append, e3, Bool.eq_iff_iff, Bool.and_eq_true, decide_eq_true_eq, decide_eq_true_eq, decide_eq_true_eq]
    omega
theorem hasL_is (f : Rm) (c : List C) : hasL f (neatC c) = decide ((minusC c (outC f)).length = 0) := by rw [hasL_lacks, lacks_is]
theorem sum8 (f : Nat → Nat) : ((List.range 8).map f).sum = f 0 + f 1 + f 2 + f 3 + f 4 + f 5 + f 6 + f 7 := by
  simp [List.range, List.range.loop]; omega
theorem outC_len (f : Rm) : (outC f).length = (f 0).length + (f 1).length + (f 2).length + (f 3).length + (f 4).length + (f 5).length + (f 6).length + (f 7).length := by
  rw [← sum8 fun r => (f r).length]
  unfold outC
  rw [List.length_flatMap]
  congr 2
  funext r
  unfold tag
  rw [List.length_map]
theorem room_le (f : Rm) (r : Nat) (h : r < 8) : (f r).length ≤ (outC f).length := by
  rw [outC_len]
  rcases (by omega : r = 0 ∨ r = 1 ∨ r = 2 ∨ r = 3 ∨ r = 4 ∨ r = 5 ∨ r = 6 ∨ r = 7) with rfl | rfl | rfl | rfl | rfl | rfl | rfl | rfl <;> omega
theorem tot_le {f g h : Rm} (k : Nat) (e : ∀ r, r < 8 → (f r).length ≤ (g r).length + (h r).length + k) : (outC f).length ≤ (outC g).length + (outC h).length + 8 * k := by
  rw [outC_len, outC_len, outC_len]
  have := e 0 (by omega); have := e 1 (by omega); have := e 2 (by omega); have := e 3 (by omega)
  have := e 4 (by omega); have := e 5 (by omega); have := e 6 (by omega); have := e 7 (by omega)
  omega
theorem spans_cons (c : C) (l : List C) (r : Int) : (spansOf (c :: l) r).length = (spansOf l r).length + (if okC c = true ∧ c.1 = r then 1 else 0) := by
  unfold spansOf
  rw [List.length_map, List.length_map, List.filter_cons]
  by_cases h : okC c = true ∧ c.1 = r
  · rw [if_pos (by simpa using h), if_pos h, List.length_cons]
  · rw [if_neg (by simpa using h), if_neg h]; rfl
theorem one8 (c : C) (h : okC c = true) (d : Int → Nat) (hd : ∀ r, d r = if okC c = true ∧ c.1 = r then 1 else 0) : d 0 + d 1 + d 2 + d 3 + d 4 + d 5 + d 6 + d 7 = 1 := by
  have hc := ((okC_iff c).1 h).1
  have hr : ∀ r, d r = if c.1 = r then 1 else 0 := fun r => by rw [hd r]; simp [h]
  rw [hr, hr, hr, hr, hr, hr, hr, hr]
  rcases (by omega : c.1 = 0 ∨ c.1 = 1 ∨ c.1 = 2 ∨ c.1 = 3 ∨ c.1 = 4 ∨ c.1 = 5 ∨ c.1 = 6 ∨ c.1 = 7) with e | e | e | e | e | e | e | e <;> rw [e] <;> decide
theorem spans_sum : ∀ l : List C, (spansOf l 0).length + (spansOf l 1).length + (spansOf l 2).length + (spansOf l 3).length + (spansOf l 4).length + (spansOf l 5).length + (spansOf l 6).length + (spansOf l 7).length ≤ l.length
  | [] => Nat.le_refl _
  | c :: l => by
    have ih := spans_sum l
    rw [spans_cons, spans_cons, spans_cons, spans_cons, spans_cons, spans_cons, spans_cons, spans_cons, List.length_cons]
    by_cases h : okC c = true
    · have := one8 c h (fun r => if okC c = true ∧ c.1 = r then 1 else 0) fun r => rfl
      omega
    · have e : ∀ r, (if okC c = true ∧ c.1 = r then 1 else 0) = 0 := fun r => if_neg fun k => h k.1
      rw [e, e, e, e, e, e, e, e]
      omega
theorem neatC_le (l : List C) : (neatC l).length ≤ l.length := by
  have h := spans_sum l
  have e : ∀ r : Nat, (neatF l r).length ≤ (spansOf l r).length := fun r => canon_len _
  have := e 0; have := e 1; have := e 2; have := e 3; have := e 4; have := e 5; have := e 6; have := e 7
  unfold neatC
  rw [outC_len]
  simp only [Int.cast_ofNat_Int] at *
  omega
theorem com_le (a b : List Sp) : (com a b).length ≤ a.length + b.length := by
  refine com_ind (P := fun a b => (com a b).length ≤ a.length + b.length) ?_ ?_ ?_ ?_ _ a b (Nat.le_refl _)
  · intro b; simp [com]
  · intro a; rw [com_nil]; simp
  · intro x a y b c ih
    rw [com_cons, if_pos c, List.length_append]
    have : (if Ok (meet x y) then [meet x y] else []).length ≤ 1 := by split <;> simp
    simp only [List.length_cons] at *; omega
  · intro x a y b c ih
    rw [com_cons, if_neg c, List.length_append]
    have : (if Ok (meet x y) then [meet x y] else []).length ≤ 1 := by split <;> simp
    simp only [List.length_cons] at *; omega
theorem meetC_le (a b : List C) : (meetC a b).length ≤ a.length + b.length := by
  have h := tot_le (f := comF (neatF a) (neatF b)) (g := neatF a) (h := neatF b) 0 fun r _ => com_le _ _
  have h1 := neatC_le a
  have h2 := neatC_le b
  unfold neatC at h1 h2
  unfold meetC
  omega
theorem minusC_le (a b : List C) : (minusC a b).length ≤ a.length + b.length + 8 := by
  have h := tot_le (f := comF (neatF a) (gapF (neatF b))) (g := neatF a) (h := neatF b) 1 fun r _ => by
    have := com_le (neatF a r) (gapF (neatF b) r)
    have e : (gapF (neatF b) r).length = (neatF b r).length + 1 := Cl.gaps_len _ _
    unfold comF; omega
  have h1 := neatC_le a
  have h2 := neatC_le b
  unfold neatC at h1 h2
  unfold minusC
  omega
theorem putR_le {f : Rm} {q : Nat} {v : List Sp} (h : q < 8 → v.length ≤ (f q).length + 1) : (outC (putR f q v)).length ≤ (outC f).length + 1 := by
  have e : ∀ r, r < 8 → (putR f q v r).length ≤ (f r).length + (if r = q then 1 else 0) := fun r hr => by
    unfold putR
    split
    · rename_i e; subst e; exact h hr
    · exact Nat.le_refl _
  have h0 := e 0 (by omega); have h1 := e 1 (by omega); have h2 := e 2 (by omega); have h3 := e 3 (by omega)
  have h4 := e 4 (by omega); have h5 := e 5 (by omega); have h6 := e 6 (by omega); have h7 := e 7 (by omega)
  rw [outC_len, outC_len]
  by_cases k : q < 8
  · rcases (by omega : q = 0 ∨ q = 1 ∨ q = 2 ∨ q = 3 ∨ q = 4 ∨ q = 5 ∨ q = 6 ∨ q = 7) with rfl | rfl | rfl | rfl | rfl | rfl | rfl | rfl <;> simp at h0 h1 h2 h3 h4 h5 h6 h7 <;> omega
  · rw [if_neg (by omega)] at h0 h1 h2 h3 h4 h5 h6 h7
    omega
theorem addR_len1 (l : List Sp) (a : Sp) : (addR l a).length ≤ l.length + 1 := by
  unfold addR
  split
  · exact Spn.addL_len l a
  · omega
theorem adds_le : ∀ (l : List C) (f : Rm), (outC (adds f l)).length ≤ (outC f).length + l.length
  | [], _ => Nat.le_refl _
  | c :: l, f => by
    have h1 := adds_le l (addS f c)
    have h2 : (outC (addS f c)).length ≤ (outC f).length + 1 := putR_le fun _ => addR_len1 _ _
    have e : adds f (c :: l) = adds (addS f c) l := rfl
    rw [e, List.length_cons]; omega
theorem cuts_le : ∀ (l : List C) {f : Rm}, NeatR f → (outC (cuts f l)).length ≤ (outC f).length + l.length
  | [], _, _ => Nat.le_refl _
  | c :: l, f, h => by
    have h1 := cuts_le l (cutS_neat h c)
    have h2 : (outC (cutS f c)).length ≤ (outC f).length + 1 := putR_le fun hq => subR_len _ _ (h _ hq)
    have e : cuts f (c :: l) = cuts (cutS f c) l := rfl
    rw [e, List.length_cons]; omega
theorem adds_take (f : Rm) (l : List C) (k : Nat) (h : k < l.length) : adds f (l.take (k + 1)) = addS (adds f (l.take k)) l[k] := by
  unfold adds; rw [List.take_succ_eq_append_getElem h, List.foldl_append]; rfl
theorem cuts_take (f : Rm) (l : List C) (k : Nat) (h : k < l.length) : cuts f (l.take (k + 1)) = cutS (cuts f (l.take k)) l[k] := by
  unfold cuts; rw [List.take_succ_eq_append_getElem h, List.foldl_append]; rfl
theorem parts_take (f : Rm) (l : List C) (k : Nat) (h : k < l.length) : parts f (l.take (k + 1)) = parts f (l.take k) ++ tag l[k].1 (partR (f l[k].1.toNat) l[k].2) := by
  unfold parts; rw [List.take_succ_eq_append_getElem h, List.flatMap_append]; simp
theorem lacks_take (f : Rm) (l : List C) (k : Nat) (h : k < l.length) : lacks f (l.take (k + 1)) = lacks f (l.take k) ++ tag l[k].1 (lackR (f l[k].1.toNat) l[k].2) := by
  unfold lacks; rw [List.take_succ_eq_append_getElem h, List.flatMap_append]; simp
def whole : List Sp := [(0, 52596000)]
def begF (k i r : Nat) : List Sp := if r % k = i then whole else []
def ltF (k i r : Nat) : List Sp := if r % k < i then whole else []
theorem whole_neat : Neat whole := ⟨by unfold Ok; decide, fun _ h => absurd h (by simp), trivial⟩
theorem beg_neat (k i : Nat) : NeatR (begF k i) := fun r _ => by unfold begF; split; exact whole_neat; exact trivial
theorem lt_neat (k i : Nat) : NeatR (ltF k i) := fun r _ => by unfold ltF; split; exact whole_neat; exact trivial
theorem beg_le (k i : Nat) : (outC (begF k i)).length ≤ 8 := by
  have e : ∀ r, (begF k i r).length ≤ 1 := fun r => by unfold begF; split <;> simp [whole]
  have := e 0; have := e 1; have := e 2; have := e 3; have := e 4; have := e 5; have := e 6; have := e 7
  rw [outC_len]; omega
theorem lt_le (k i : Nat) : (outC (ltF k i)).length ≤ 8 := by
  have e : ∀ r, (ltF k i r).length ≤ 1 := fun r => by unfold ltF; split <;> simp [whole]
  have := e 0; have := e 1; have := e 2; have := e 3; have := e 4; have := e 5; have := e 6; have := e 7
  rw [outC_len]; omega
theorem lt_meet (k i : Nat) : meetC (outC (ltF k i)) (outC (begF k i)) = [] := by
  have : meetC (outC (ltF k i)) (outC (begF k i)) = outC fun _ => [] := outC_ext fun r hr => neat_empty _ (com_neatF _ _ r) fun m => by
    rw [comF_has _ _ r hr, outC_has _ r hr, outC_has _ r hr]
    unfold ltF begF
    rintro ⟨h1, h2⟩
    split at h1
    · split at h2
      · omega
      · exact has_nil m h2
    · exact has_nil m h1
  rw [this]; rfl
theorem lt_next (k i : Nat) : neatC (outC (ltF k i) ++ outC (begF k i)) = outC (ltF k (i + 1)) :=
  outC_ext fun r hr => neat_ext _ _ (neatF_neat _ r) (lt_neat k (i + 1) r hr) fun m => by
    rw [neatF_has _ r hr, hasC_append, outC_has _ r hr, outC_has _ r hr]
    unfold ltF begF
    by_cases h1 : r % k < i
    · rw [if_pos h1, if_pos (show r % k < i + 1 by omega), if_neg (show ¬ r % k = i by omega)]
      exact ⟨fun h => h.elim id fun h => absurd h (has_nil m), Or.inl⟩
    · by_cases h2 : r % k = i
      · rw [if_neg h1, if_pos h2, if_pos (show r % k < i + 1 by omega)]
        exact ⟨fun h => h.elim (fun h => absurd h (has_nil m)) id, Or.inr⟩
      · rw [if_neg h1, if_neg h2, if_neg (show ¬ r % k < i + 1 by omega)]
        exact ⟨fun h => h.elim id id, Or.inl⟩
theorem lt_zero (k : Nat) : outC (ltF k 0) = [] := by
  have : outC (ltF k 0) = outC fun _ => [] := outC_ext fun _ _ => if_neg (Nat.not_lt_zero _)
  rw [this]; rfl
theorem lt_all (k : Nat) (h : 0 < k) : outC (ltF k k) = outC fun _ => whole := outC_ext fun _ _ => if_pos (Nat.mod_lt _ h)
theorem all_len : (outC fun _ => whole).length = 8 := by rw [outC_len]; rfl
theorem all_long : longC (outC fun _ => whole) = 420768000 := by
  unfold longC
  have : longF (neatF (outC fun _ => whole)) = longF fun _ => whole := longF_ext fun r hr => neatF_out _ r hr whole_neat
  rw [this]; decide
theorem beg_some (k i : Nat) (h : i < k) (hk : k ≤ 8) : (outC (begF k i)).length ≠ 0 := by
  have := room_le (begF k i) i (by omega)
  have e : begF k i i = whole := if_pos (Nat.mod_eq_of_lt h)
  rw [e] at this
  have e2 : whole.length = 1 := rfl
  omega
theorem joined_is {f g : Rm} {c : List C} (hf : NeatR f) (hg : NeatR g) (p : List C) (hp : p = parts f (neatC c)) :
    ∀ r, r < 8 → ∀ m, (Has (cuts f (neatC p) r) m ↔ Has (f r) m ∧ ¬ HasC c r m) ∧ (Has (adds g (neatC p) r) m ↔ Has (g r) m ∨ (Has (f r) m ∧ HasC c r m)) := fun r hr m => by
  have hpm : HasC p r m ↔ HasC c r m ∧ Has (f r) m := by rw [hp, parts_is hf, meetC_has _ _ r hr, outC_has f r hr]
  rw [cuts_has _ hf (neatC_lo p) r hr, adds_has _ hg (neatC_lo p) r hr, neatC_has p r hr, hpm]
  refine ⟨⟨fun h => ⟨h.1, fun k => h.2 ⟨k, h.1⟩⟩, fun h => ⟨h.1, fun k => h.2 k.1⟩⟩, ⟨fun h => h.imp id fun k => ⟨k.2, k.1⟩, fun h => h.imp id fun k => ⟨k.2, k.1⟩⟩⟩
/-- two leases: nothing in common, together what A has. -/
structure Two (A f g : Rm) : Prop where
  nf : NeatR f
  ng : NeatR g
  apart : ∀ r, r < 8 → ∀ m, ¬ (Has (f r) m ∧ Has (g r) m)
  all : ∀ r, r < 8 → ∀ m, Has (A r) m ↔ Has (f r) m ∨ Has (g r) m
theorem Two.swap {A f g : Rm} (h : Two A f g) : Two A g f := ⟨h.ng, h.nf, fun r hr m k => h.apart r hr m ⟨k.2, k.1⟩, fun r hr m => (h.all r hr m).trans ⟨Or.symm, Or.symm⟩⟩
theorem Two.move {A f g : Rm} (h : Two A f g) (c p : List C) (hp : p = parts f (neatC c)) : Two A (cuts f (neatC p)) (adds g (neatC p)) := by
  refine ⟨cuts_neat _ h.nf, adds_neat _ h.ng, fun r hr m => ?_, fun r hr m => ?_⟩
  · obtain ⟨e1, e2⟩ := joined_is h.nf h.ng p hp r hr m
    rw [e1, e2]
    rintro ⟨⟨k1, k2⟩, k3 | k3⟩
    · exact h.apart r hr m ⟨k1, k3⟩
    · exact k2 k3.2
  · obtain ⟨e1, e2⟩ := joined_is h.nf h.ng p hp r hr m
    rw [e1, e2, h.all r hr m]
    by_cases k : HasC c r m <;> by_cases k2 : Has (f r) m <;> simp [k, k2]
theorem Two.meet {A f g : Rm} (h : Two A f g) : meetC (outC f) (outC g) = [] := by
  have : meetC (outC f) (outC g) = outC fun _ => [] := outC_ext fun r hr => neat_empty _ (com_neatF _ _ r) fun m => by
    rw [comF_has _ _ r hr, outC_has _ r hr, outC_has _ r hr]; exact h.apart r hr m
  rw [this]; rfl
theorem Two.join {A f g : Rm} (h : Two A f g) (hA : NeatR A) : neatC (outC f ++ outC g) = outC A :=
  outC_ext fun r hr => neat_ext _ _ (neatF_neat _ r) (hA r hr) fun m => by
    rw [neatF_has _ r hr, hasC_append, outC_has _ r hr, outC_has _ r hr, h.all r hr m]
theorem Two.other {A f g : Rm} (h : Two A f g) : outC g = minusC (outC A) (outC f) :=
  outC_ext fun r hr => neat_ext _ _ (h.ng r hr) (min_neatF _ _ r) fun m => by
    rw [minF_has _ _ r hr, outC_has _ r hr, outC_has _ r hr, h.all r hr m]
    have := h.apart r hr m
    by_cases k : Has (f r) m <;> by_cases k2 : Has (g r) m <;> simp [k, k2] at this ⊢
theorem Two.le {A f g : Rm} (h : Two A f g) : (outC g).length ≤ (outC A).length + (outC f).length + 8 := by
  rw [h.other]; exact minusC_le _ _
theorem move_le {f : Rm} (h : NeatR f) (c p : List C) (hp : p = parts f (neatC c)) : (outC (cuts f (neatC p))).length ≤ (outC f).length + c.length + 8 := by
  have e : outC (cuts f (neatC p)) = minusC (outC f) c := outC_ext fun r hr => neat_ext _ _ (cuts_neat _ h r hr) (min_neatF _ _ r) fun m => by
    rw [(joined_is h h p hp r hr m).1, minF_has _ _ r hr, outC_has f r hr]
  rw [e]; exact minusC_le _ _
theorem add_has {g : Rm} (h : NeatR g) (p : List C) : hasL (adds g (neatC p)) (neatC p) = true := by
  rw [hasL_is, decide_eq_true_eq]
  have : minusC p (outC (adds g (neatC p))) = outC fun _ => [] := outC_ext fun r hr => neat_empty _ (min_neatF _ _ r) fun m => by
    rw [minF_has _ _ r hr, outC_has _ r hr, adds_has _ h (neatC_lo p) r hr, neatC_has p r hr]
    exact fun k => k.2 (Or.inr k.1)
  rw [this]; rfl
end Le

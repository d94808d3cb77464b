/- Put together: ExA ExMath. -/
import Derived.Test.YtdmplojfidkipaaDaC
import Derived.Maps.AppendAt
import Derived.Test.YtdmplojfidkipaaDaSameM

/- A row of numbers that grows beside another row: what an append leaves, and where the own row lies behind it. -/
namespace Go.Proofs.Ytdmplojfidkipaa
open Go.RowKit Rul Go.Sort

/-- the own row v became v': all other blocks are as they were; v' lies where v lay, or in new memory. -/
structure GoesI (v : Value) (w : World) (v' : Value) (w' : World) : Prop where
  grown : w.grownBy w' v.ownBlock
  own : v'.ownBlock = v.ownBlock ∨ ∃ k, v'.ownBlock = some k ∧ w.heap.size ≤ k
theorem GoesI.trans {v1 v2 v3 : Value} {w1 w2 w3 : World} (h : GoesI v1 w1 v2 w2) (k : GoesI v2 w2 v3 w3) : GoesI v1 w1 v3 w3 := by
  obtain ⟨hg, ho⟩ := h
  obtain ⟨kg, ko⟩ := k
  refine ⟨⟨kg.os.trans hg.os, kg.tape.trans hg.tape, kg.output.trans hg.output, Nat.le_trans hg.size kg.size, fun i hi hne => ?_⟩, ?_⟩
  · refine (kg.block i (Nat.lt_of_lt_of_le hi hg.size) ?_).trans (hg.block i hi hne)
    rcases ho with ho | ⟨k, ho, hk⟩
    · rw [ho]; exact hne
    · rw [ho]; intro he; injection he with he; omega
  · rcases ko with ko | ⟨k, ko, hk⟩
    · rw [ko]; exact ho
    · exact Or.inr ⟨k, ko, Nat.le_trans hg.size hk⟩
theorem GoesI.below {v : Value} {w w' : World} (h : Below w.heap.size w w') : GoesI v w v w' := ⟨⟨h.os, h.tape, h.output, h.size, fun i hi _ => h.block i hi⟩, Or.inl rfl⟩
theorem GoesI.to {v v' : Value} {W w w' : World} {B : Nat} {l : List Int} (h : GoesI v w v' w') (hown : OwnI w B v l) (hb : Below B W w) (hB : B ≤ w.heap.size) : Below B W w' :=
  hb.grown h.grown hB fun j hj => (hown.lt j hj).1
/-- a block that isn't the own row's. -/
def ApartI (v : Value) (b : Nat) : Prop := some b ≠ v.ownBlock
theorem GoesI.apart {v v' : Value} {w w' : World} {b : Nat} (h : GoesI v w v' w') (ha : ApartI v b) (hb : b < w.heap.size) : ApartI v' b := by
  unfold ApartI at *
  rcases h.own with ho | ⟨k, ho, hk⟩
  · rw [ho]; exact ha
  · rw [ho]; intro he; injection he with he; omega
theorem GoesI.row {v v' : Value} {w w' : World} {b o : Nat} {l : List Int} (h : GoesI v w v' w') (ha : ApartI v b) (hr : RowI w (some ⟨b, o, none⟩) l) : RowI w' (some ⟨b, o, none⟩) l := fun hn => by
  obtain ⟨b2, o2, e, hl, hc⟩ := hr hn
  injection e with e
  injection e with e1 e2
  subst e1 e2
  exact ⟨b, o, rfl, Nat.lt_of_lt_of_le hl h.grown.size, fun i hi => h.grown.cell (hc i hi) ha⟩
/-- a row that another call made lies apart from the own one. -/
theorem apart_of {w w2 : World} {B : Nat} {v : Value} {l k : List Int} {A : Option Addr} {n c : Nat} (h : OwnI w B v l) (h2 : OwnI w2 w.heap.size (.slice A n c) k) : ∀ b o, A = some ⟨b, o, none⟩ → ApartI v b := fun b o e he => by
  subst e
  have a := (h2.lt b rfl).1
  have c := (h.lt b he.symm).2
  omega
/-- one number more behind a call's own row. -/
theorem wp_oneJ {ops : Array Oper} {rest : List Oper} {o : Oper} {a : Act} {Q : Exit → Act → World → Prop} {w : World} {B : Nat} {v : Value} {l : List Int} {p : Int} (hgd : o.guard = none) (s x : Operand)
    (ho : o.op = .call { callee := .builtin .append, args := #[s, x], argTypes := #[23, 23] }) (hs : a.eval s = v) {N : Nat} (hN : w.heap.size = N) (hx : a.eval x = .slice (some ⟨N, 0, none⟩) 1 1)
    (hown : OwnI w B v l) (hB : B ≤ w.heap.size) (hn : l.length ≤ 1000000)
    (h : ∀ v' w', OwnI w' B v' (l ++ [p]) → GoesI v w v' w' → wpList Try.prog ops Q rest (a.put o.dst v') w') :
    wpList Try.prog ops Q (o :: rest) a (w.alloc (.cells #[.int .i64 p] 3)) := by
  subst hN
  obtain ⟨i0, hi, hz0, hz1, hz2⟩ := info_parts int_info
  refine wpList_append_own_at _ hgd s x 23 ho B 3 i0 _ 1 8 Try.underlying23 hi hz0 hz1 hz2 rfl (by decide) v l.length (cellsI l) hs (hown.alloc _) ⟨w.heap.size, 0, none⟩ 1 1 [.int .i64 p] hx rfl ?_ ?_ ?_ ?_ ?_ ?_
  · intro j u hu
    rw [plus, World.cell?_alloc_at _ _ _ _ rfl]
    exact (by simpa using hu)
  · intro u hu
    simp only [List.mem_cons, List.not_mem_nil, or_false] at hu
    subst hu; rfl
  · unfold maxLen; omega
  · omega
  · simp only [World.size_alloc]; omega
  · intro v' w' h2 h3 _ h5
    refine h v' w' (by rw [OwnI, cellsI_append, List.length_append]; exact h2) ((GoesI.below (more (start w) _)).trans ⟨h3, ?_⟩)
    rcases h5 with h5 | h5
    · exact Or.inl h5
    · exact Or.inr ⟨_, h5, Nat.le_refl _⟩

end Go.Proofs.Ytdmplojfidkipaa

/- Plain facts of the minutes at which a rule comes: no word of a program. -/
namespace Go.Proofs.Ytdmplojfidkipaa.Rul
open Go.Proofs.Ytdmplojfidkipaa

/-- the minutes of the k-th period, from start on. -/
def candK (r : T) (s : Int) (k : Nat) : List Int := ((daysL r (s / 1440) k).map fun d => d * 1440 + s % 1440).filter fun m => decide (s ≤ m)
/-- the minutes of the first k periods. -/
def candT (r : T) (s : Int) (k : Nat) : List Int := (List.range k).flatMap (candK r s)
def cand (r : T) (s : Int) : List Int := candT r s 36525
def keepU (r : T) (m : Int) : Bool := decide (r.un < 0) || decide (m ≤ r.un)
def capN (r : T) : Nat := if 0 < r.ct then r.ct.toNat else 41
/-- all starts, ahead of those that are left out; at most 41. -/
def allL (r : T) (s : Int) : List Int := ((cand r s).filter (keepU r)).take (capN r)
theorem candT_0 (r : T) (s : Int) : candT r s 0 = [] := rfl
theorem candT_succ (r : T) (s : Int) (k : Nat) : candT r s (k + 1) = candT r s k ++ candK r s k := by
  unfold candT; rw [List.range_succ, List.flatMap_append]; simp
theorem candK_no (r : T) (s : Int) (k : Nat) (h : perK r (s / 1440) k = false) : candK r s k = [] := by
  unfold candK; rw [daysL_no _ _ _ h]; rfl
theorem candK_mem (r : T) (s m : Int) (k : Nat) (h : m ∈ candK r s k) : perK r (s / 1440) k = true ∧ perA r (s / 1440) k ≤ m / 1440 ∧ m / 1440 < perB r (s / 1440) k ∧ m % 1440 = s % 1440 ∧ s ≤ m ∧ ofB r (s / 1440) (m / 1440) = true := by
  cases hK : perK r (s / 1440) k
  · rw [candK_no r s k hK] at h; cases h
  unfold candK at h
  rw [List.mem_filter, List.mem_map] at h
  obtain ⟨⟨d, hd, rfl⟩, h2⟩ := h
  rw [daysL_yes _ _ _ hK, List.mem_filter, upto_mem] at hd
  have e1 : (d * 1440 + s % 1440) / 1440 = d := by omega
  have e2 : (d * 1440 + s % 1440) % 1440 = s % 1440 := by omega
  rw [e1, e2]
  exact ⟨rfl, hd.1.1, hd.1.2, rfl, by simpa using h2, hd.2⟩
theorem perK_down (r : T) (s : Int) (k : Nat) (h : perK r s k = false) (j : Nat) : perK r s ((k + j : Nat) : Int) = false := by
  induction j with
  | zero => exact h
  | succ j ih =>
    rw [Bool.eq_false_iff]; intro hc
    rw [show ((k + (j + 1) : Nat) : Int) = ((k + j : Nat) : Int) + 1 by omega] at hc
    rw [(per_more r s _ (by omega) hc).1] at ih
    cases ih
theorem perK_before (r : T) (s : Int) (i k : Nat) (hik : i ≤ k) (h : perK r s k = true) : perK r s i = true := by
  cases hc : perK r s i
  · have := perK_down r s i hc (k - i)
    rw [show i + (k - i) = k by omega, h] at this
    cases this
  · rfl
theorem per_before (r : T) (s : Int) (i k : Nat) (hik : i < k) (h : perK r s k = true) : perB r s i ≤ perA r s k := by
  induction k with
  | zero => omega
  | succ k ih =>
    have h1 := per_more r s k (by omega) h
    rcases Nat.lt_or_ge i k with g | g
    · have := ih g h1.1
      have b := per_bd r s k h1.1
      have := h1.2
      rw [show ((k + 1 : Nat) : Int) = (k : Int) + 1 by omega]
      omega
    · obtain rfl : i = k := by omega
      exact h1.2
theorem candT_mem (r : T) (s m : Int) (k : Nat) : m ∈ candT r s k ↔ ∃ i, i < k ∧ m ∈ candK r s i := by
  unfold candT; rw [List.mem_flatMap]; simp [List.mem_range]
/-- a rule's minutes in later periods are later. -/
theorem cand_later (r : T) (s x y : Int) (i k : Nat) (hik : i < k) (hx : x ∈ candK r s i) (hy : y ∈ candK r s k) : x < y := by
  have a := candK_mem r s x i hx
  have b := candK_mem r s y k hy
  have := per_before r (s / 1440) i k hik b.1
  omega
theorem candK_up (r : T) (s : Int) (k : Nat) : (candK r s k).Pairwise (· < ·) := by
  unfold candK
  have hp : (daysL r (s / 1440) k).Pairwise (· < ·) := by
    cases hK : perK r (s / 1440) k
    · rw [daysL_no _ _ _ hK]; exact List.Pairwise.nil
    · rw [daysL_yes _ _ _ hK]; exact (upto_rise _ _).filter _
  refine List.Pairwise.filter _ (List.pairwise_map.2 (hp.imp fun h => ?_))
  omega
theorem candT_up (r : T) (s : Int) (k : Nat) : (candT r s k).Pairwise (· < ·) := by
  induction k with
  | zero => exact List.Pairwise.nil
  | succ k ih =>
    rw [candT_succ, List.pairwise_append]
    refine ⟨ih, candK_up r s k, fun x hx y hy => ?_⟩
    obtain ⟨i, hi, hx⟩ := (candT_mem r s x k).1 hx
    exact cand_later r s x y i k hi hx hy
/-- the rest of the minutes, from the k-th period on. -/
theorem cand_split (r : T) (s : Int) (k : Nat) (h : k ≤ 36525) : ∃ t, cand r s = candT r s k ++ t ∧ ∀ m ∈ t, ∃ i, k ≤ i ∧ m ∈ candK r s i := by
  have : ∀ j : Nat, ∃ t, candT r s (k + j) = candT r s k ++ t ∧ ∀ m ∈ t, ∃ i, k ≤ i ∧ m ∈ candK r s i := by
    intro j
    induction j with
    | zero => exact ⟨[], by simp, fun m h => by cases h⟩
    | succ j ih =>
      obtain ⟨t, e, ht⟩ := ih
      refine ⟨t ++ candK r s (k + j), by rw [show k + (j + 1) = k + j + 1 by omega, candT_succ, e, List.append_assoc], fun m hm => ?_⟩
      rcases List.mem_append.1 hm with g | g
      · exact ht m g
      · exact ⟨k + j, by omega, g⟩
  obtain ⟨t, e, ht⟩ := this (36525 - k)
  rw [show k + (36525 - k) = 36525 by omega] at e
  exact ⟨t, e, ht⟩
/-- where no period is left, all minutes are told. -/
theorem cand_end (r : T) (s : Int) (k : Nat) (hk : k ≤ 36525) (h : perK r (s / 1440) k = false) : cand r s = candT r s k := by
  obtain ⟨t, e, ht⟩ := cand_split r s k hk
  have : t = [] := by
    rcases List.eq_nil_or_concat t with g | ⟨u, m, g⟩
    · exact g
    · obtain ⟨i, hi, hm⟩ := ht m (by rw [g]; simp)
      have := perK_down r (s / 1440) k h (i - k)
      rw [show k + (i - k) = i by omega] at this
      rw [candK_no r s i this] at hm
      cases hm
  rw [e, this, List.append_nil]
/-- what has been told so far is all there is. -/
theorem all_is (r : T) (s : Int) (p t : List Int) (e : cand r s = p ++ t) (hp : ∀ m ∈ p, keepU r m = true) (hl : p.length ≤ capN r) (h : t = [] ∨ p.length = capN r ∨ ∀ m ∈ t, keepU r m = false) : allL r s = p := by
  unfold allL
  rw [e, List.filter_append, show p.filter (keepU r) = p from List.filter_eq_self.2 hp]
  rcases h with g | g | g
  · subst g; simp only [List.filter_nil, List.append_nil]; exact List.take_of_length_le hl
  · rw [← g]; simp
  · rw [show t.filter (keepU r) = [] from List.filter_eq_nil_iff.2 fun m hm => by rw [g m hm]; simp, List.append_nil]
    exact List.take_of_length_le hl
theorem keepU_up (r : T) (x y : Int) (h : x ≤ y) (hx : keepU r x = false) : keepU r y = false := by
  unfold keepU at *
  rw [Bool.or_eq_false_iff, decide_eq_false_iff_not, decide_eq_false_iff_not] at *
  omega
theorem allL_sub (r : T) (s m : Int) (h : m ∈ allL r s) : m ∈ cand r s ∧ keepU r m = true := by
  unfold allL at h
  have := List.mem_of_mem_take h
  rw [List.mem_filter] at this
  exact this
theorem allL_up (r : T) (s : Int) : (allL r s).Pairwise (· < ·) := by
  unfold allL
  exact ((candT_up r s 36525).filter _).take
theorem allL_len (r : T) (s : Int) : (allL r s).length ≤ capN r := by unfold allL; exact List.length_take_le _ _

/-- what has been told when i days of the k-th period have been looked at. -/
def pre (r : T) (s : Int) (k i : Nat) : List Int := candT r s k ++ ((((daysL r (s / 1440) k).take i).map fun d => d * 1440 + s % 1440).filter fun m => decide (s ≤ m))
theorem pre_0 (r : T) (s : Int) (k : Nat) : pre r s k 0 = candT r s k := by unfold pre; simp
theorem pre_end (r : T) (s : Int) (k i : Nat) (h : i = (daysL r (s / 1440) k).length) : pre r s k i = candT r s (k + 1) := by
  subst h; unfold pre; rw [List.take_length, candT_succ]; rfl
theorem pre_skip (r : T) (s : Int) (k i : Nat) (h : i < (daysL r (s / 1440) k).length) (hm : (daysL r (s / 1440) k)[i] * 1440 + s % 1440 < s) : pre r s k (i + 1) = pre r s k i := by
  unfold pre
  rw [List.take_succ_eq_append_getElem h, List.map_append, List.filter_append]
  have : decide (s ≤ (daysL r (s / 1440) k)[i] * 1440 + s % 1440) = false := decide_eq_false (by omega)
  simp [this]
theorem pre_step (r : T) (s : Int) (k i : Nat) (h : i < (daysL r (s / 1440) k).length) (hm : s ≤ (daysL r (s / 1440) k)[i] * 1440 + s % 1440) : pre r s k (i + 1) = pre r s k i ++ [(daysL r (s / 1440) k)[i] * 1440 + s % 1440] := by
  unfold pre
  rw [List.take_succ_eq_append_getElem h, List.map_append, List.filter_append]
  have : decide (s ≤ (daysL r (s / 1440) k)[i] * 1440 + s % 1440) = true := decide_eq_true hm
  simp [this]
theorem pre_rest (r : T) (s : Int) (k i : Nat) (hk : k < 36525) (h : i < (daysL r (s / 1440) k).length) : ∃ t, cand r s = pre r s k i ++ t ∧ ∀ x ∈ t, (daysL r (s / 1440) k)[i] * 1440 + s % 1440 ≤ x := by
  obtain ⟨t, e, ht⟩ := cand_split r s (k + 1) (by omega)
  have hK : perK r (s / 1440) k = true := by
    cases hc : perK r (s / 1440) k
    · rw [daysL_no _ _ _ hc] at h; exact absurd h (Nat.not_lt_zero _)
    · rfl
  have hp : (daysL r (s / 1440) k).Pairwise (· < ·) := by rw [daysL_yes _ _ _ hK]; exact (upto_rise _ _).filter _
  have hin := daysL_in r (s / 1440) k i h
  refine ⟨((((daysL r (s / 1440) k).drop i).map fun d => d * 1440 + s % 1440).filter fun m => decide (s ≤ m)) ++ t, ?_, fun x hx => ?_⟩
  · rw [e, candT_succ]
    unfold pre candK
    have hs : ((daysL r (s / 1440) k).map fun d => d * 1440 + s % 1440).filter (fun m => decide (s ≤ m)) = ((((daysL r (s / 1440) k).take i).map fun d => d * 1440 + s % 1440).filter fun m => decide (s ≤ m)) ++ ((((daysL r (s / 1440) k).drop i).map fun d => d * 1440 + s % 1440).filter fun m => decide (s ≤ m)) := by
      rw [← List.filter_append, ← List.map_append, List.take_append_drop]
    rw [hs]; simp only [List.append_assoc]
  · rcases List.mem_append.1 hx with g | g
    · rw [List.mem_filter, List.mem_map] at g
      obtain ⟨⟨d, hd, rfl⟩, _⟩ := g
      obtain ⟨j, hj, rfl⟩ := List.mem_iff_getElem.1 hd
      rw [List.getElem_drop]
      rcases Nat.eq_zero_or_pos j with z | z
      · subst z; simp
      · have := List.pairwise_iff_getElem.1 hp i (i + j) h (by simp at hj; omega) (by omega)
        omega
    · obtain ⟨q, hq, hm⟩ := ht x g
      have a := candK_mem r s x q hm
      have := per_before r (s / 1440) k q (by omega) a.1
      omega
/-- nothing is left behind the end, or no room. -/
theorem all_none (r : T) (s : Int) (k : Nat) (hk : k ≤ 36525) (h : perK r (s / 1440) k = false) (hp : ∀ m ∈ candT r s k, keepU r m = true) (hl : (candT r s k).length ≤ capN r) : allL r s = candT r s k :=
  all_is r s _ [] (by rw [cand_end r s k hk h, List.append_nil]) hp hl (Or.inl rfl)
theorem all_past (r : T) (s : Int) (k : Nat) (hk : k ≤ 36525) (h : perK r (s / 1440) k = true) (hu : 0 ≤ r.un) (hu2 : r.un < perA r (s / 1440) k * 1440) (hp : ∀ m ∈ candT r s k, keepU r m = true) (hl : (candT r s k).length ≤ capN r) : allL r s = candT r s k := by
  obtain ⟨t, e, ht⟩ := cand_split r s k hk
  refine all_is r s _ t e hp hl (Or.inr (Or.inr fun m hm => ?_))
  obtain ⟨i, hi, hm⟩ := ht m hm
  have a := candK_mem r s m i hm
  have b := per_bd r (s / 1440) k h
  have c : perA r (s / 1440) k ≤ perA r (s / 1440) i := by
    rcases Nat.lt_or_ge k i with g | g
    · have := per_before r (s / 1440) k i g a.1; omega
    · obtain rfl : i = k := by omega
      exact Int.le_refl _
  unfold keepU
  rw [Bool.or_eq_false_iff, decide_eq_false_iff_not, decide_eq_false_iff_not]
  omega
theorem all_until (r : T) (s : Int) (k i : Nat) (hk : k < 36525) (h : i < (daysL r (s / 1440) k).length) (hu : 0 ≤ r.un) (hu2 : r.un < (daysL r (s / 1440) k)[i] * 1440 + s % 1440) (hp : ∀ m ∈ pre r s k i, keepU r m = true) (hl : (pre r s k i).length ≤ capN r) : allL r s = pre r s k i := by
  obtain ⟨t, e, ht⟩ := pre_rest r s k i hk h
  refine all_is r s _ t e hp hl (Or.inr (Or.inr fun m hm => ?_))
  have := ht m hm
  unfold keepU
  rw [Bool.or_eq_false_iff, decide_eq_false_iff_not, decide_eq_false_iff_not]
  omega
theorem all_full (r : T) (s : Int) (k i : Nat) (hk : k < 36525) (h : i < (daysL r (s / 1440) k).length) (hp : ∀ m ∈ pre r s k i, keepU r m = true) (hl : (pre r s k i).length = capN r) : allL r s = pre r s k i := by
  obtain ⟨t, e, ht⟩ := pre_rest r s k i hk h
  exact all_is r s _ t e hp (by omega) (Or.inr (Or.inl hl))
theorem keepU_lo (r : T) (m : Int) (h : r.un < 0) : keepU r m = true := by unfold keepU; rw [decide_eq_true h]; rfl
theorem keepU_hi (r : T) (m : Int) (h : m ≤ r.un) : keepU r m = true := by unfold keepU; rw [decide_eq_true h, Bool.or_true]
theorem capN_ct (r : T) (h : 0 < r.ct) : capN r = r.ct.toNat := by unfold capN; rw [if_pos h]
theorem capN_0 (r : T) (h : ¬ 0 < r.ct) : capN r = 41 := by unfold capN; rw [if_neg h]

/-- is it among those that are left out? -/
def outB (ex : List Int) (m : Int) : Bool := ex.any fun x => x == m
/-- the starts, and what is wrong. -/
def startsE (r : T) (s : Int) (ex : List Int) : List Int × Int :=
  if isB r = false then ([], 12)
  else if s < 0 ∨ 52596000 ≤ s then ([], 10)
  else if 40 < (if r.fr = 0 then [s] else allL r s).length then ([], 13)
  else if ((if r.fr = 0 then [s] else allL r s).filter fun m => !outB ex m) = [] then ([], 23)
  else ((if r.fr = 0 then [s] else allL r s).filter fun m => !outB ex m, 0)
/-- the spans, and what is wrong. -/
def spansE (r : T) (s long : Int) (ex : List Int) : List (Int × Int) × Int :=
  if isB r = false then ([], 12)
  else if s < 0 ∨ 52596000 ≤ s then ([], 10)
  else if long < 1 ∨ 10080 < long then ([], 15)
  else if (startsE r s ex).2 ≠ 0 then ([], (startsE r s ex).2)
  else if ((startsE r s ex).1.all fun m => decide (m + long ≤ 52596000)) = false then ([], 10)
  else ((startsE r s ex).1.map fun m => (m, m + long), 0)

end Go.Proofs.Ytdmplojfidkipaa.Rul

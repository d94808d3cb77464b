/- Put together: RtNum RtCut RtList RtPart RtText. -/
import Derived.Test.YtpicfpadednnoaaDoorRuMath
import Derived.Lib.ItoaNum
import Derived.Lib.AtoiAllCases
import Derived.Lib.Split
import Derived.Lib.SplitLaws
import Derived.Lib.Join

/- Plain facts of numbers as texts: which texts are numbers as Go writes them, which the document reads; no word of a program. -/
namespace Go.Proofs.YtpicfpadednnoaaDoor.Rt
open Go.Proofs.YtpicfpadednnoaaDoor Rul

abbrev Tx := List UInt8
def dgt (c : UInt8) : Bool := decide (48 ≤ c.toNat ∧ c.toNat ≤ 57)
def vl (l : Tx) : Nat := l.foldl (fun a c => 10 * a + (c.toNat - 48)) 0
theorem vl_snoc (l : Tx) (c : UInt8) : vl (l ++ [c]) = 10 * vl l + (c.toNat - 48) := by simp [vl, List.foldl_append]
theorem dgt_iff (c : UInt8) : dgt c = true ↔ 48 ≤ c.toNat ∧ c.toNat ≤ 57 := by simp [dgt]
theorem byte_of (d : Nat) (h : d < 10) : (UInt8.ofNat (48 + d)).toNat = 48 + d := by rw [UInt8.toNat_ofNat']; omega
theorem byte_back (c : UInt8) (h : dgt c = true) : UInt8.ofNat (48 + (c.toNat - 48)) = c := by
  rw [dgt_iff] at h
  apply UInt8.toNat_inj.1
  rw [byte_of _ (by omega)]; omega

/-- digits without a nought ahead of others. -/
structure Canon (l : Tx) : Prop where
  ne : l ≠ []
  all : l.all dgt = true
  head : l.head? = some 48 → l.length = 1

theorem dec_small (u : Nat) (h : u < 10) : Lib.decDigits u = [UInt8.ofNat (48 + u)] := by rw [Lib.decDigits, dif_pos h]
theorem dec_big (u : Nat) (h : ¬ u < 10) : Lib.decDigits u = Lib.decDigits (u / 10) ++ [UInt8.ofNat (48 + u % 10)] := by rw [Lib.decDigits, dif_neg h]
theorem dec_ne (u : Nat) : Lib.decDigits u ≠ [] := by
  by_cases h : u < 10
  · rw [dec_small u h]; simp
  · rw [dec_big u h]; simp
theorem dec_all : ∀ u : Nat, (Lib.decDigits u).all dgt = true
  | u => by
    by_cases h : u < 10
    · rw [dec_small u h]; simp [dgt_iff]; omega
    · rw [dec_big u h, List.all_append, dec_all (u / 10)]
      simp [dgt_iff]; omega
 termination_by u => u
 decreasing_by omega
theorem dec_head : ∀ u : Nat, 1 ≤ u → (Lib.decDigits u).head? ≠ some 48
  | u, h1 => by
    by_cases h : u < 10
    · rw [dec_small u h]
      intro e
      simp only [List.head?_cons, Option.some.injEq] at e
      have := byte_of u h
      rw [e] at this
      have e2 : (48 : UInt8).toNat = 48 := rfl
      omega
    · rw [dec_big u h]
      have := dec_head (u / 10) (by omega)
      rw [List.head?_append]
      cases hd : (Lib.decDigits (u / 10)).head? with
      | none => exact absurd (List.head?_eq_none_iff.1 hd) (dec_ne _)
      | some x => rw [hd] at this; simpa using this
 termination_by u => u
 decreasing_by omega
theorem dec_canon (u : Nat) : Canon (Lib.decDigits u) := by
  refine ⟨dec_ne u, dec_all u, fun h => ?_⟩
  rcases Nat.eq_zero_or_pos u with rfl | h1
  · rw [dec_small 0 (by omega)]; rfl
  · exact absurd h (dec_head u h1)
theorem vl_dec : ∀ u : Nat, vl (Lib.decDigits u) = u
  | u => by
    by_cases h : u < 10
    · rw [dec_small u h]
      show 10 * 0 + ((UInt8.ofNat (48 + u)).toNat - 48) = u
      rw [byte_of u h]; omega
    · rw [dec_big u h, vl_snoc, vl_dec (u / 10), byte_of _ (by omega)]; omega
 termination_by u => u
 decreasing_by omega
theorem dec_vl : ∀ (k : Nat) (l : Tx), l.length = k → Canon l → Lib.decDigits (vl l) = l
  | 0, l, hk, h => absurd (List.eq_nil_of_length_eq_zero hk) h.ne
  | k + 1, l, hk, h => by
    rcases List.eq_nil_or_concat l with rfl | ⟨m, c, rfl⟩
    · simp at hk
    rw [List.concat_eq_append] at *
    have hall := h.all
    rw [List.all_append, Bool.and_eq_true] at hall
    have hc : dgt c = true := by simpa using hall.2
    have hcb := (dgt_iff c).1 hc
    rw [vl_snoc]
    by_cases hm : m = []
    · subst hm
      have : vl [] = 0 := rfl
      rw [this, dec_small _ (by omega), Nat.mul_zero, Nat.zero_add, byte_back c hc]; rfl
    · have hlm : m.length = k := by simpa using hk
      have hmp : 0 < m.length := List.length_pos_iff.2 hm
      have hhead : m.head? ≠ some 48 := fun e => by
        have := h.head (by rw [List.head?_append, e]; rfl)
        rw [List.length_append, List.length_singleton] at this; omega
      have ih := dec_vl k m hlm ⟨hm, hall.1, fun e => absurd e hhead⟩
      have hpos : 1 ≤ vl m := by
        rcases Nat.eq_zero_or_pos (vl m) with e | e
        · rw [e, dec_small 0 (by omega)] at ih
          exact absurd (by rw [← ih]; rfl) hhead
        · exact e
      rw [dec_big _ (by omega)]
      have e1 : (10 * vl m + (c.toNat - 48)) / 10 = vl m := by omega
      have e2 : (10 * vl m + (c.toNat - 48)) % 10 = c.toNat - 48 := by omega
      rw [e1, e2, ih, byte_back c hc]
theorem vl_lt : ∀ (k : Nat) (l : Tx), l.length = k → l.all dgt = true → vl l < 10 ^ k
  | 0, l, hk, _ => by rw [List.eq_nil_of_length_eq_zero hk]; decide
  | k + 1, l, hk, h => by
    rcases List.eq_nil_or_concat l with rfl | ⟨m, c, rfl⟩
    · simp at hk
    rw [List.concat_eq_append] at *
    rw [List.all_append, Bool.and_eq_true] at h
    have hc : dgt c = true := by simpa using h.2
    have hcb := (dgt_iff c).1 hc
    have ih := vl_lt k m (by simpa using hk) h.1
    rw [vl_snoc, Nat.pow_succ]; omega
theorem dec_len : ∀ (k u : Nat), u < 10 ^ (k + 1) → (Lib.decDigits u).length ≤ k + 1
  | 0, u, h => by rw [dec_small u (by simpa using h)]; simp
  | k + 1, u, h => by
    by_cases hu : u < 10
    · rw [dec_small u hu]; simp
    · rw [dec_big u hu, List.length_append]
      have := dec_len k (u / 10) (by rw [Nat.pow_succ] at h; omega)
      simp only [List.length_cons, List.length_nil]; omega

/-- the bytes of a number's text. -/
def numc (c : UInt8) : Bool := dgt c || c == 45
theorem itoa_nn (u : Nat) : Lib.itoa (u : Int) = Lib.decDigits u := by unfold Lib.itoa; rw [if_neg (by omega)]; simp
theorem itoa_ng (n : Int) (h : n < 0) : Lib.itoa n = 45 :: Lib.decDigits n.natAbs := by unfold Lib.itoa; rw [if_pos h]
theorem itoa_pos (n : Int) (h : 0 ≤ n) : Lib.itoa n = Lib.decDigits n.toNat := by unfold Lib.itoa; rw [if_neg (by omega)]
theorem itoa_ne (n : Int) : Lib.itoa n ≠ [] := by unfold Lib.itoa; split; simp; exact dec_ne _
theorem itoa_chars (n : Int) : (Lib.itoa n).all numc = true := by
  have h : ∀ u, (Lib.decDigits u).all numc = true := fun u => by
    rw [List.all_eq_true]; intro c hc
    have := List.all_eq_true.1 (dec_all u) c hc
    simp [numc, this]
  unfold Lib.itoa; split
  · rw [List.all_cons, h]; rfl
  · exact h _
theorem dgt_45 (c : UInt8) (h : dgt c = true) : c ≠ 45 := by intro e; subst e; revert h; decide
theorem itoa_inj (n m : Int) (h : Lib.itoa n = Lib.itoa m) : n = m := by
  have hd : ∀ (u : Nat) (r : Tx), Lib.decDigits u ≠ 45 :: r := fun u r e => by
    have := dec_all u
    rw [e, List.all_cons, Bool.and_eq_true] at this
    exact dgt_45 45 this.1 rfl
  unfold Lib.itoa at h
  by_cases h1 : n < 0 <;> by_cases h2 : m < 0
  · rw [if_pos h1, if_pos h2] at h
    injection h with _ h
    have e1 := vl_dec n.natAbs
    rw [h, vl_dec] at e1; omega
  · rw [if_pos h1, if_neg h2] at h; exact absurd h.symm (hd _ _)
  · rw [if_neg h1, if_pos h2] at h; exact absurd h (hd _ _)
  · rw [if_neg h1, if_neg h2] at h
    have e1 := vl_dec n.toNat
    rw [h, vl_dec] at e1; omega

/-- what the code reads: Atoi, and Itoa is the text again. -/
def numC (t : Tx) : Option Int := match Lib.atoiAll t with
  | .ok v => if Lib.itoa v = t then some v else none
  | _ => none
def in64 (n : Int) : Prop := -9223372036854775808 ≤ n ∧ n ≤ 9223372036854775807
theorem numC_some {t : Tx} {n : Int} (h : numC t = some n) : t = Lib.itoa n ∧ in64 n ∧ Lib.atoiAll t = .ok n := by
  unfold numC at h
  split at h
  · rename_i v hv
    split at h
    · rename_i he
      injection h with h
      subst h
      exact ⟨he.symm, Lib.atoiAll_bounds hv, hv⟩
    · cases h
  · cases h
theorem uint_ok : ∀ (l : Tx) (a : Nat), l.all dgt = true → l.foldl (fun a c => 10 * a + (c.toNat - 48)) a < 18446744073709551616 → Lib.parseUint10 a l = .ok (l.foldl (fun a c => 10 * a + (c.toNat - 48)) a)
  | [], a, _, _ => rfl
  | c :: r, a, h, hl => by
    rw [List.all_cons, Bool.and_eq_true] at h
    have hc := (dgt_iff c).1 h.1
    have hmono : ∀ (l : Tx) (a : Nat), a ≤ l.foldl (fun a c => 10 * a + (c.toNat - 48)) a := fun l => by
      induction l with
      | nil => intro a; exact Nat.le_refl _
      | cons d l ih => intro a; have := ih (10 * a + (d.toNat - 48)); rw [List.foldl_cons]; omega
    have hm := hmono r (10 * a + (c.toNat - 48))
    rw [List.foldl_cons] at hl ⊢
    unfold Lib.parseUint10
    rw [if_pos hc, if_neg (by omega), if_neg (by omega), Nat.mul_comm a 10]
    exact uint_ok r _ h.2 hl
theorem mag_dec (u : Nat) (h : u < 18446744073709551616) : Lib.parseMag (Lib.decDigits u) = .ok u := by
  unfold Lib.parseMag
  rw [if_neg (dec_ne u)]
  have e : (Lib.decDigits u).foldl (fun a c => 10 * a + (c.toNat - 48)) 0 = u := vl_dec u
  have := uint_ok (Lib.decDigits u) 0 (dec_all u) (by rw [e]; exact h)
  rw [e] at this
  exact this
theorem atoi_itoa (n : Int) (h : in64 n) : Lib.atoiAll (Lib.itoa n) = .ok n := by
  obtain ⟨h1, h2⟩ := h
  by_cases hn : n < 0
  · rw [itoa_ng n hn, Lib.atoiAll_minus, mag_dec _ (by omega)]
    simp only [Lib.signed]
    rw [if_neg (by omega)]
    congr 1; omega
  · rw [itoa_pos n (by omega)]
    obtain ⟨c, r, e⟩ : ∃ c r, Lib.decDigits n.toNat = c :: r := List.exists_cons_of_ne_nil (dec_ne _)
    have ha := dec_all n.toNat
    rw [e, List.all_cons, Bool.and_eq_true] at ha
    have hc := (dgt_iff c).1 ha.1
    rw [e, Lib.atoiAll_plain c r (by omega) (by omega), ← e, mag_dec _ (by omega)]
    simp only [Lib.signless]
    rw [if_neg (by omega)]
    congr 1; omega
theorem numC_itoa (n : Int) (h : in64 n) : numC (Lib.itoa n) = some n := by
  unfold numC; rw [atoi_itoa n h]; simp
theorem numC_iff (t : Tx) (n : Int) : numC t = some n ↔ t = Lib.itoa n ∧ in64 n :=
  ⟨fun h => ⟨(numC_some h).1, (numC_some h).2.1⟩, fun ⟨h1, h2⟩ => h1 ▸ numC_itoa n h2⟩

/-- what the document's Dec reads. -/
def magR (t : Tx) (neg : Bool) : Bool := decide (1 ≤ t.length) && (decide (t.length ≤ 8) && (!(t.head? == some 48 && (decide (1 < t.length) || neg)) && t.all dgt))
def minusB (t : Tx) (below : Bool) : Bool := below && (decide (1 < t.length) && t.head? == some 45)
def decR (t : Tx) (below : Bool) : Option Int :=
  if minusB t below then (if magR t.tail true then some (-(vl t.tail : Int)) else none)
  else if magR t false then some (vl t : Int) else none
theorem magR_iff (t : Tx) (neg : Bool) : magR t neg = true ↔ Canon t ∧ t.length ≤ 8 ∧ (neg = true → t.head? ≠ some 48) := by
  unfold magR
  simp only [Bool.and_eq_true, decide_eq_true_eq, Bool.not_eq_true', Bool.and_eq_false_iff, beq_eq_false_iff_ne, Bool.or_eq_false_iff, decide_eq_false_iff_not]
  constructor
  · rintro ⟨h1, h2, h3, h4⟩
    refine ⟨⟨fun e => by rw [e] at h1; simp at h1, h4, fun e => ?_⟩, h2, fun e => ?_⟩
    · rcases h3 with h3 | h3
      · exact absurd e h3
      · omega
    · rcases h3 with h3 | h3
      · exact h3
      · rw [e] at h3; cases h3.2
  · rintro ⟨h, h2, h3⟩
    refine ⟨List.length_pos_iff.2 h.ne, h2, ?_, h.all⟩
    by_cases e : t.head? = some 48
    · refine Or.inr ⟨by rw [h.head e]; omega, ?_⟩
      cases neg
      · rfl
      · exact absurd e (h3 rfl)
    · exact Or.inl e
theorem decR_iff (t : Tx) (b : Bool) (n : Int) : decR t b = some n ↔ t = Lib.itoa n ∧ (-100000000 < n ∧ n < 100000000) ∧ (b = false → 0 ≤ n) := by
  unfold decR
  constructor
  · intro h
    split at h
    · rename_i hm
      split at h
      · rename_i hg
        injection h with h
        obtain ⟨hc, h8, hz⟩ := (magR_iff _ _).1 hg
        have e := dec_vl _ _ rfl hc
        have hlt := vl_lt _ _ rfl hc.all
        have hp : (10 : Nat) ^ t.tail.length ≤ 10 ^ 8 := Nat.pow_le_pow_right (by omega) h8
        have h1 : 1 ≤ vl t.tail := by
          rcases Nat.eq_zero_or_pos (vl t.tail) with g | g
          · rw [g, dec_small 0 (by omega)] at e
            exact absurd (by rw [← e]; rfl) (hz rfl)
          · exact g
        unfold minusB at hm
        simp only [Bool.and_eq_true, decide_eq_true_eq, beq_iff_eq] at hm
        obtain ⟨hb, hl, hh⟩ := hm
        obtain ⟨c, r, rfl⟩ : ∃ c r, t = c :: r := List.exists_cons_of_ne_nil (fun e => by rw [e] at hl; simp at hl)
        simp only [List.head?_cons, Option.some.injEq, List.tail_cons] at *
        subst h hh
        refine ⟨?_, by omega, fun e => by rw [e] at hb; cases hb⟩
        rw [itoa_ng _ (by omega), show (-(vl r : Int)).natAbs = vl r by omega, e]
      · cases h
    · split at h
      · rename_i hg
        injection h with h
        obtain ⟨hc, h8, hz⟩ := (magR_iff _ _).1 hg
        have e := dec_vl _ _ rfl hc
        have hlt := vl_lt _ _ rfl hc.all
        have hp : (10 : Nat) ^ t.length ≤ 10 ^ 8 := Nat.pow_le_pow_right (by omega) h8
        subst h
        exact ⟨by rw [itoa_nn, e], by omega, fun _ => by omega⟩
      · cases h
  · rintro ⟨rfl, ⟨h1, h2⟩, h3⟩
    by_cases hn : n < 0
    · have hb : b = true := by cases b; exact absurd (h3 rfl) (by omega); rfl
      have hl := dec_len 7 n.natAbs (by omega)
      rw [itoa_ng n hn]
      have hm : minusB (45 :: Lib.decDigits n.natAbs) b = true := by
        unfold minusB
        have := List.length_pos_iff.2 (dec_ne n.natAbs)
        simp [hb]; omega
      rw [if_pos hm, List.tail_cons, if_pos ((magR_iff _ _).2 ⟨dec_canon _, hl, fun _ => dec_head _ (by omega)⟩), vl_dec]
      congr 1; omega
    · have hl := dec_len 7 n.toNat (by omega)
      rw [itoa_pos n (by omega)]
      have hm : minusB (Lib.decDigits n.toNat) b = false := by
        unfold minusB
        obtain ⟨c, r, e⟩ : ∃ c r, Lib.decDigits n.toNat = c :: r := List.exists_cons_of_ne_nil (dec_ne _)
        have ha := dec_all n.toNat
        rw [e, List.all_cons, Bool.and_eq_true] at ha
        rw [e]
        simp [dgt_45 c ha.1]
      rw [if_neg (by rw [hm]; simp), if_pos ((magR_iff _ _).2 ⟨dec_canon _, hl, fun e => by cases e⟩), vl_dec]
      congr 1; omega

end Go.Proofs.YtpicfpadednnoaaDoor.Rt

/- Plain facts of texts that are cut at a byte, and put together again; no word of a program. -/
namespace Go.Proofs.YtpicfpadednnoaaDoor.Rt
open Go.Proofs.YtpicfpadednnoaaDoor Rul

/-- a text cut at each c. -/
def cutAt (c : UInt8) : Tx → List Tx
  | [] => [[]]
  | b :: l => if b = c then [] :: cutAt c l else match cutAt c l with
    | [] => [[b]]
    | p :: r => (b :: p) :: r
theorem cutAt_ne (c : UInt8) : ∀ l, cutAt c l ≠ []
  | [] => by simp [cutAt]
  | b :: l => by
    unfold cutAt
    split
    · simp
    · split <;> simp
theorem cutAt_none (c : UInt8) : ∀ l : Tx, c ∉ l → cutAt c l = [l]
  | [], _ => rfl
  | b :: l, h => by
    have hb : b ≠ c := fun e => h (e ▸ List.mem_cons_self)
    unfold cutAt
    rw [if_neg hb, cutAt_none c l fun g => h (List.mem_cons_of_mem _ g)]
theorem cutAt_app (c : UInt8) (q : Tx) : ∀ p : Tx, c ∉ p → cutAt c (p ++ c :: q) = p :: cutAt c q
  | [], _ => by rw [List.nil_append, cutAt, if_pos rfl]
  | b :: p, h => by
    have hb : b ≠ c := fun e => h (e ▸ List.mem_cons_self)
    rw [List.cons_append, cutAt, if_neg hb, cutAt_app c q p fun g => h (List.mem_cons_of_mem _ g)]
theorem cutAt_snoc (c b : UInt8) : ∀ l : Tx, cutAt c (l ++ [b]) = if b = c then cutAt c l ++ [[]] else (cutAt c l).dropLast ++ [(cutAt c l).getLastD [] ++ [b]]
  | [] => by
    rw [List.nil_append]
    by_cases h : b = c
    · simp [cutAt, h]
    · simp [cutAt, h]
  | a :: l => by
    have ih := cutAt_snoc c b l
    obtain ⟨p, r, e⟩ := List.exists_cons_of_ne_nil (cutAt_ne c l)
    by_cases ha : a = c
    · rw [List.cons_append, cutAt, if_pos ha, ih]
      have e2 : cutAt c (a :: l) = [] :: cutAt c l := by rw [cutAt, if_pos ha]
      rw [e2, e]
      split <;> simp
    · have e2 : cutAt c (a :: l) = (a :: p) :: r := by rw [cutAt, if_neg ha, e]
      rw [List.cons_append, cutAt, if_neg ha, ih, e2, e]
      by_cases hb : b = c
      · rw [if_pos hb, if_pos hb]; rfl
      · rw [if_neg hb, if_neg hb]
        cases r with
        | nil => rfl
        | cons x r => simp
theorem cutAt_free (c : UInt8) : ∀ (l p : Tx), p ∈ cutAt c l → c ∉ p
  | [], p, h => by simp [cutAt] at h; subst h; simp
  | b :: l, p, h => by
    unfold cutAt at h
    by_cases hb : b = c
    · rw [if_pos hb] at h
      rcases List.mem_cons.1 h with rfl | h
      · simp
      · exact cutAt_free c l p h
    · rw [if_neg hb] at h
      obtain ⟨x, r, e⟩ := List.exists_cons_of_ne_nil (cutAt_ne c l)
      rw [e] at h
      have hx := cutAt_free c l x (by rw [e]; exact List.mem_cons_self)
      rcases List.mem_cons.1 h with rfl | h
      · intro g
        rcases List.mem_cons.1 g with g | g
        · exact hb g.symm
        · exact hx g
      · exact cutAt_free c l p (by rw [e]; exact List.mem_cons_of_mem _ h)
/-- what is put together of pieces without c is cut into them. -/
def joinAt (c : UInt8) : List Tx → Tx
  | [] => []
  | [p] => p
  | p :: q :: r => p ++ c :: joinAt c (q :: r)
theorem joinAt_cons (c : UInt8) (p : Tx) (r : List Tx) (h : r ≠ []) : joinAt c (p :: r) = p ++ c :: joinAt c r := by
  cases r with
  | nil => exact absurd rfl h
  | cons q r => rfl
theorem cut_join (c : UInt8) : ∀ ps : List Tx, ps ≠ [] → (∀ p ∈ ps, c ∉ p) → cutAt c (joinAt c ps) = ps
  | [], h, _ => absurd rfl h
  | [p], _, h => cutAt_none c p (h p (by simp))
  | p :: q :: r, _, h => by
    rw [joinAt, cutAt_app c _ p (h p (by simp)), cut_join c (q :: r) (by simp) fun x hx => h x (List.mem_cons_of_mem _ hx)]
theorem join_cut (c : UInt8) : ∀ l : Tx, joinAt c (cutAt c l) = l
  | [] => rfl
  | b :: l => by
    have ih := join_cut c l
    obtain ⟨x, r, e⟩ := List.exists_cons_of_ne_nil (cutAt_ne c l)
    unfold cutAt
    by_cases hb : b = c
    · rw [if_pos hb, joinAt_cons c _ _ (cutAt_ne c l), ih, hb]; rfl
    · rw [if_neg hb, e]
      rw [e] at ih
      cases r with
      | nil => simpa [joinAt] using congrArg (b :: ·) ih
      | cons y r => simpa [joinAt] using congrArg (b :: ·) ih
theorem join_lib (c : UInt8) : ∀ ps : List Tx, Lib.join ps [c] = joinAt c ps
  | [] => rfl
  | [p] => Lib.join_one p _
  | p :: q :: r => by
    rw [joinAt, ← join_lib c (q :: r), Lib.join_cons, Lib.join_cons]
    simp [Lib.joinTail]
theorem join_snoc (c : UInt8) (p : Tx) : ∀ ps : List Tx, ps ≠ [] → joinAt c (ps ++ [p]) = joinAt c ps ++ c :: p
  | [], h => absurd rfl h
  | [q], _ => rfl
  | q :: x :: r, _ => by
    rw [List.cons_append, joinAt_cons c q _ (by simp), join_snoc c p (x :: r) (by simp), joinAt]; simp

/-- the library's words. -/
theorem index_hit (c : UInt8) (q : Tx) : ∀ p : Tx, c ∉ p → Lib.index (p ++ c :: q) [c] = (p.length : Int)
  | [], _ => by rw [List.nil_append, Lib.index]; simp [List.isPrefixOf]
  | b :: p, h => by
    have hb : b ≠ c := fun e => h (e ▸ List.mem_cons_self)
    have hp : ([c] : Tx).isPrefixOf (b :: (p ++ c :: q)) = false := by simp [List.isPrefixOf, Ne.symm hb]
    have ih := index_hit c q p fun g => h (List.mem_cons_of_mem _ g)
    rw [List.cons_append, Lib.index, hp, ih]
    simp only [Bool.false_eq_true, if_false]
    rw [if_neg (by rw [beq_iff_eq]; omega)]
    simp
theorem index_miss (c : UInt8) : ∀ l : Tx, c ∉ l → Lib.index l [c] = -1
  | [], _ => by simp [Lib.index]
  | b :: l, h => by
    have hb : b ≠ c := fun e => h (e ▸ List.mem_cons_self)
    have hp : ([c] : Tx).isPrefixOf (b :: l) = false := by simp [List.isPrefixOf, Ne.symm hb]
    rw [Lib.index, hp, index_miss c l fun g => h (List.mem_cons_of_mem _ g)]
    simp
theorem split_at (c : UInt8) : ∀ l : Tx, c ∈ l → ∃ p q, l = p ++ c :: q ∧ c ∉ p
  | [], h => by simp at h
  | b :: l, h => by
    by_cases hb : b = c
    · exact ⟨[], l, by rw [hb]; rfl, by simp⟩
    · obtain ⟨p, q, e, hp⟩ := split_at c l (by rcases List.mem_cons.1 h with g | g; exact absurd g.symm hb; exact g)
      exact ⟨b :: p, q, by rw [e]; rfl, by intro g; rcases List.mem_cons.1 g with g | g; exact hb g.symm; exact hp g⟩
theorem cut_hit (c : UInt8) (p q : Tx) (h : c ∉ p) : Lib.cut (p ++ c :: q) [c] = (p, q, true) := by
  unfold Lib.cut
  rw [index_hit c q p h, if_pos (by omega), Int.toNat_natCast]
  simp
theorem cut_miss (c : UInt8) (l : Tx) (h : c ∉ l) : Lib.cut l [c] = (l, [], false) := by
  unfold Lib.cut
  rw [index_miss c l h, if_neg (by omega)]
theorem splitK_hit (c : UInt8) (k : Nat) (p q : Tx) (h : c ∉ p) : Lib.splitK [c] 0 (k + 1) (p ++ c :: q) = p :: Lib.splitK [c] 0 k q := by
  rw [Lib.splitK, index_hit c q p h, if_neg (by rw [beq_iff_eq]; omega), Int.toNat_natCast]
  simp
theorem splitK_miss (c : UInt8) (k : Nat) (l : Tx) (h : c ∉ l) : Lib.splitK [c] 0 k l = [l] := by
  cases k with
  | zero => rfl
  | succ k => rw [Lib.splitK, index_miss c l h]; rfl
/-- cut at the first k alone: the same, or the last piece has c and there are k pieces ahead of it. -/
theorem splitK_cut (c : UInt8) : ∀ (k : Nat) (l : Tx), (Lib.splitK [c] 0 k l = cutAt c l ∧ (cutAt c l).length ≤ k + 1) ∨ ((Lib.splitK [c] 0 k l).length = k + 1 ∧ k + 1 < (cutAt c l).length ∧ ∃ p ∈ Lib.splitK [c] 0 k l, c ∈ p)
  | 0, l => by
    by_cases h : c ∈ l
    · refine Or.inr ⟨rfl, ?_, l, by simp [Lib.splitK], h⟩
      obtain ⟨p, q, rfl, hp⟩ := split_at c l h
      rw [cutAt_app c q p hp, List.length_cons]
      have := List.length_pos_iff.2 (cutAt_ne c q)
      omega
    · exact Or.inl (by rw [cutAt_none c l h]; exact ⟨rfl, Nat.le_refl _⟩)
  | k + 1, l => by
    by_cases h : c ∈ l
    · obtain ⟨p, q, rfl, hp⟩ := split_at c l h
      rw [splitK_hit c k p q hp, cutAt_app c q p hp]
      rcases splitK_cut c k q with ⟨h1, h2⟩ | ⟨h1, h2, x, hx, hc⟩
      · exact Or.inl ⟨by rw [h1], by rw [List.length_cons]; omega⟩
      · exact Or.inr ⟨by rw [List.length_cons, h1], by rw [List.length_cons]; omega, x, List.mem_cons_of_mem _ hx, hc⟩
    · exact Or.inl (by rw [splitK_miss c _ l h, cutAt_none c l h]; exact ⟨rfl, by simp⟩)
theorem cutAt_len (c : UInt8) : ∀ l : Tx, (cutAt c l).length ≤ l.length + 1
  | [] => Nat.le_refl _
  | b :: l => by
    have ih := cutAt_len c l
    unfold cutAt
    split
    · simp only [List.length_cons]; omega
    · split
      · simp
      · rename_i e; rw [e] at ih; simp only [List.length_cons] at *; omega

end Go.Proofs.YtpicfpadednnoaaDoor.Rt

/- Plain facts of lists that are read element by element and put in order; no word of a program. -/
namespace Go.Proofs.YtpicfpadednnoaaDoor.Rt
open Go.Proofs.YtpicfpadednnoaaDoor Rul

section
variable {α β : Type}
/-- each one read, or none at all. -/
def allSome (f : α → Option β) : List α → Option (List β)
  | [] => some []
  | a :: l => match f a with
    | none => none
    | some b => match allSome f l with
      | none => none
      | some bs => some (b :: bs)
theorem allSome_iff (f : α → Option β) : ∀ (l : List α) (bs : List β), allSome f l = some bs ↔ l.map f = bs.map some
  | [], bs => by cases bs <;> simp [allSome]
  | a :: l, bs => by
    unfold allSome
    have ih := allSome_iff f l
    cases ha : f a with
    | none => cases bs <;> simp [ha]
    | some b =>
      cases hl : allSome f l with
      | none =>
        simp only [List.map_cons, ha]
        constructor
        · intro h; cases h
        · intro h
          cases bs with
          | nil => cases h
          | cons c bs =>
            simp only [List.map_cons, List.cons.injEq] at h
            rw [(ih bs).2 h.2] at hl; cases hl
      | some cs =>
        have e := (ih cs).1 hl
        cases bs with
        | nil => simp
        | cons c bs =>
          simp only [List.map_cons, ha, List.cons.injEq, Option.some.injEq]
          constructor
          · rintro ⟨rfl, rfl⟩; exact ⟨rfl, e⟩
          · rintro ⟨h1, h2⟩; exact ⟨h1, by have := (ih bs).2 h2; rw [hl] at this; injection this⟩
theorem allSome_len {f : α → Option β} {l : List α} {bs : List β} (h : allSome f l = some bs) : l.length = bs.length := by
  have := congrArg List.length ((allSome_iff f l bs).1 h)
  simpa using this
theorem allSome_mem {f : α → Option β} {l : List α} {bs : List β} (h : allSome f l = some bs) {a : α} (ha : a ∈ l) : ∃ b ∈ bs, f a = some b := by
  have e := (allSome_iff f l bs).1 h
  have : f a ∈ l.map f := List.mem_map.2 ⟨a, ha, rfl⟩
  rw [e, List.mem_map] at this
  obtain ⟨b, hb, g⟩ := this
  exact ⟨b, hb, g.symm⟩
theorem allSome_change {f g : α → Option β} : ∀ {l : List α} {bs : List β}, allSome f l = some bs → (∀ a ∈ l, ∀ b ∈ bs, f a = some b → g a = some b) → allSome g l = some bs
  | [], bs, h, _ => by simpa [allSome] using h
  | a :: l, bs, h, k => by
    rw [allSome_iff] at h ⊢
    cases bs with
    | nil => cases h
    | cons c bs =>
      simp only [List.map_cons, List.cons.injEq] at h ⊢
      refine ⟨k a (by simp) c (by simp) h.1, ?_⟩
      rw [← allSome_iff] at h ⊢
      exact allSome_change h.2 fun x hx b hb => k x (List.mem_cons_of_mem _ hx) b (List.mem_cons_of_mem _ hb)
theorem allSome_snoc (f : α → Option β) (l : List α) (a : α) {bs : List β} (h : allSome f l = some bs) {b : β} (hb : f a = some b) : allSome f (l ++ [a]) = some (bs ++ [b]) := by
  rw [allSome_iff] at *
  simp [h, hb]
theorem allSome_none (f : α → Option β) {l : List α} {a : α} (ha : a ∈ l) (h : f a = none) : allSome f l = none := by
  cases e : allSome f l with
  | none => rfl
  | some bs =>
    obtain ⟨b, _, g⟩ := allSome_mem e ha
    rw [h] at g; cases g

/-- an order in which no two unlike ones are alike. -/
structure Ord (lt : α → α → Bool) : Prop where
  irr : ∀ a, lt a a = false
  tr : ∀ a b c, lt a b = true → lt b c = true → lt a c = true
  tot : ∀ a b, lt a b = false → lt b a = false → a = b
def weak (lt : α → α → Bool) (l : List α) : Prop := l.Pairwise fun a b => lt b a = false
def strict (lt : α → α → Bool) (l : List α) : Prop := l.Pairwise fun a b => lt a b = true
theorem Ord.asym {lt : α → α → Bool} (o : Ord lt) (a b : α) (h : lt a b = true) : lt b a = false := by
  rw [Bool.eq_false_iff]; intro h2
  have := o.tr a b a h h2
  rw [o.irr] at this; cases this
theorem strict.weak {lt : α → α → Bool} (o : Ord lt) {l : List α} (h : strict lt l) : weak lt l := List.Pairwise.imp (fun {a b} g => o.asym a b g) h
theorem weak_unique {lt : α → α → Bool} (o : Ord lt) {l k : List α} (h1 : weak lt l) (h2 : weak lt k) (hp : l.Perm k) : l = k :=
  List.Perm.eq_of_pairwise (le := fun a b => lt b a = false) (fun a b _ _ x y => o.tot a b y x) h1 h2 hp
theorem strict_nodup {lt : α → α → Bool} (o : Ord lt) {l : List α} (h : strict lt l) : l.Nodup := List.Pairwise.imp (fun {a b} g e => by subst e; rw [o.irr] at g; cases g) h

/-- one more, ahead of the first that is greater. -/
def insG (lt : α → α → Bool) (x : α) : List α → List α
  | [] => [x]
  | y :: l => if lt x y then x :: y :: l else y :: insG lt x l
theorem insG_perm (lt : α → α → Bool) (x : α) : ∀ l, (insG lt x l).Perm (x :: l)
  | [] => List.Perm.refl _
  | y :: l => by
    unfold insG
    split
    · exact List.Perm.refl _
    · exact ((insG_perm lt x l).cons y).trans (List.Perm.swap x y l)
theorem insG_weak {lt : α → α → Bool} (o : Ord lt) (x : α) : ∀ l, weak lt l → weak lt (insG lt x l)
  | [], _ => by simp [insG, weak]
  | y :: l, h => by
    have hc := List.pairwise_cons.1 h
    unfold insG
    split
    · rename_i hx
      refine List.pairwise_cons.2 ⟨fun z hz => ?_, h⟩
      rcases List.mem_cons.1 hz with rfl | hz
      · exact o.asym _ _ hx
      · rw [Bool.eq_false_iff]; intro g
        have := o.tr z x y g hx
        rw [hc.1 z hz] at this; cases this
    · rename_i hx
      refine List.pairwise_cons.2 ⟨fun z hz => ?_, insG_weak o x l hc.2⟩
      rcases List.mem_cons.1 ((insG_perm lt x l).mem_iff.1 hz) with rfl | hz
      · simpa using hx
      · exact hc.1 z hz
def srt (lt : α → α → Bool) (l : List α) : List α := l.foldr (insG lt) []
theorem srt_perm (lt : α → α → Bool) : ∀ l, (srt lt l).Perm l
  | [] => List.Perm.refl _
  | x :: l => (insG_perm lt x _).trans ((srt_perm lt l).cons x)
theorem srt_weak {lt : α → α → Bool} (o : Ord lt) : ∀ l, weak lt (srt lt l)
  | [] => List.Pairwise.nil
  | x :: l => insG_weak o x _ (srt_weak o l)
theorem srt_is {lt : α → α → Bool} (o : Ord lt) {l d : List α} (hp : d.Perm l) (hw : weak lt d) : d = srt lt l :=
  weak_unique o hw (srt_weak o l) (hp.trans (srt_perm lt l).symm)
theorem srt_self {lt : α → α → Bool} (o : Ord lt) {l : List α} (h : strict lt l) : srt lt l = l := (srt_is o (List.Perm.refl l) (h.weak o)).symm
theorem weak_strict {lt : α → α → Bool} (o : Ord lt) : ∀ {l : List α}, weak lt l → l.Nodup → strict lt l
  | [], _, _ => List.Pairwise.nil
  | x :: l, h, hn => by
    have h1 := List.pairwise_cons.1 h
    have h2 := List.nodup_cons.1 hn
    refine List.pairwise_cons.2 ⟨fun y hy => ?_, weak_strict o h1.2 h2.2⟩
    cases hxy : lt x y
    · exact absurd (o.tot x y hxy (h1.1 y hy)) (fun e => h2.1 (e ▸ hy))
    · rfl

/-- one by one, none twice. -/
def insAll [DecidableEq β] (lt : β → β → Bool) (f : α → Option β) : List α → List β → Option (List β)
  | [], acc => some acc
  | t :: r, acc => match f t with
    | none => none
    | some x => if x ∈ acc then none else insAll lt f r (insG lt x acc)
theorem insAll_to [DecidableEq β] {lt : β → β → Bool} (o : Ord lt) (f : α → Option β) : ∀ (ts : List α) (acc l : List β), strict lt acc → insAll lt f ts acc = some l → ∃ xs, allSome f ts = some xs ∧ strict lt l ∧ l.Perm (acc ++ xs)
  | [], acc, l, ha, h => by
    injection h with h
    subst h
    exact ⟨[], rfl, ha, by simp⟩
  | t :: r, acc, l, ha, h => by
    unfold insAll at h
    split at h
    · cases h
    · rename_i x hx
      split at h
      · cases h
      · rename_i hm
        have hp := insG_perm lt x acc
        have hs : strict lt (insG lt x acc) := weak_strict o (insG_weak o x acc (ha.weak o)) (hp.symm.nodup (List.nodup_cons.2 ⟨hm, strict_nodup o ha⟩))
        obtain ⟨xs, h1, h2, h3⟩ := insAll_to o f r _ l hs h
        refine ⟨x :: xs, by unfold allSome; rw [hx, h1], h2, h3.trans ((hp.append_right xs).trans ?_)⟩
        rw [List.cons_append]
        exact (List.perm_middle (l₁ := acc) (l₂ := xs) (a := x)).symm
theorem insAll_of [DecidableEq β] {lt : β → β → Bool} (o : Ord lt) (f : α → Option β) : ∀ (ts : List α) (acc l xs : List β), strict lt acc → allSome f ts = some xs → strict lt l → l.Perm (acc ++ xs) → insAll lt f ts acc = some l
  | [], acc, l, xs, ha, h, hl, hp => by
    injection h with h
    subst h
    rw [List.append_nil] at hp
    rw [weak_unique o (hl.weak o) (ha.weak o) hp]; rfl
  | t :: r, acc, l, xs, ha, h, hl, hp => by
    unfold allSome at h
    split at h
    · cases h
    · rename_i x hx
      split at h
      · cases h
      · rename_i ys hy
        injection h with h
        subst h
        have hn := hp.nodup (strict_nodup o hl)
        have hp2 : l.Perm (x :: (acc ++ ys)) := hp.trans List.perm_middle
        have hm : x ∉ acc := fun g => by
          have := hp2.nodup (strict_nodup o hl)
          exact (List.nodup_cons.1 this).1 (List.mem_append.2 (Or.inl g))
        have hip := insG_perm lt x acc
        have hs : strict lt (insG lt x acc) := weak_strict o (insG_weak o x acc (ha.weak o)) (hip.symm.nodup (List.nodup_cons.2 ⟨hm, strict_nodup o ha⟩))
        unfold insAll
        rw [hx]
        simp only
        rw [if_neg hm]
        exact insAll_of o f r _ l ys hs hy hl (hp2.trans (hip.append_right ys).symm)

/-- what a rule asks of a list. -/
theorem listB_iff {p : α → Bool} {lt : α → α → Bool} (o : Ord lt) (d : α) (l : List α) : listB p lt d l = true ↔ l.length ≤ 12 ∧ (∀ x ∈ l, p x = true) ∧ strict lt l := by
  unfold listB
  rw [Bool.and_eq_true, decide_eq_true_eq, ascB_iff]
  constructor
  · rintro ⟨h1, h2⟩
    have hp : ∀ x ∈ l, p x = true := fun x hx => by
      obtain ⟨i, hi, rfl⟩ := List.mem_iff_getElem.1 hx
      have := h2 i hi
      rw [stepB_get _ _ _ _ _ hi, Bool.and_eq_true] at this
      exact this.1
    have hs : ∀ i (hi : i + 1 < l.length), lt l[i] l[i + 1] = true := fun i hi => by
      have := h2 (i + 1) hi
      rw [stepB_succ _ _ _ _ _ hi, Bool.and_eq_true] at this
      exact this.2
    refine ⟨h1, hp, List.pairwise_iff_getElem.2 fun i j hi hj hij => ?_⟩
    obtain ⟨k, rfl⟩ : ∃ k, j = i + 1 + k := ⟨j - (i + 1), by omega⟩
    clear hij
    induction k with
    | zero => exact hs i hj
    | succ k ih => exact o.tr _ _ _ (ih (by omega)) (hs (i + 1 + k) hj)
  · rintro ⟨h1, h2, h3⟩
    refine ⟨h1, fun i hi => ?_⟩
    rw [stepB_get _ _ _ _ _ hi, h2 _ (List.getElem_mem _), Bool.true_and]
    cases i with
    | zero => rfl
    | succ i =>
      have := List.pairwise_iff_getElem.1 h3 i (i + 1) (by omega) hi (by omega)
      rw [show i + 1 - 1 = i from rfl, getD_at d l i (by omega), this]; simp
end

theorem ordI : Ord inLt where
  irr a := by simp [inLt]
  tr a b c h k := by simp only [inLt, decide_eq_true_eq] at *; omega
  tot a b h k := by simp only [inLt, decide_eq_false_iff_not] at *; omega
theorem ordW : Ord wdLt where
  irr a := by simp [wdLt]
  tr a b c h k := by simp only [wdLt, decide_eq_true_eq] at *; omega
  tot a b h k := by
    simp only [wdLt, decide_eq_false_iff_not] at *
    have : a.1 = b.1 ∧ a.2 = b.2 := by omega
    exact Prod.ext this.1 this.2

end Go.Proofs.YtpicfpadednnoaaDoor.Rt

/- Plain facts of a rule's text: its parts, what each says, what all say together; the code's reading and the document's; no word of a program. -/
namespace Go.Proofs.YtpicfpadednnoaaDoor.Rt
open Go.Proofs.YtpicfpadednnoaaDoor Rul

/-- a minute's text, as far as rules go. -/
structure Un where
  f : Tx → Option Int
  text : Int → Tx
  noeq : ∀ v n, f v = some n → (61 : UInt8) ∉ v
  back : ∀ n, 0 ≤ n → n < 52596000 → f (text n) = some n
  free : ∀ n, (59 : UInt8) ∉ text n ∧ (61 : UInt8) ∉ text n
  nil : text (-1) = []
  some : ∀ n, 0 ≤ n → n < 52596000 → text n ≠ []

inductive Part where
  | fr (n : Int)
  | ev (n : Int)
  | ct (n : Int)
  | un (n : Int)
  | ys (l : List Int)
  | ms (l : List Int)
  | ds (l : List Wd)
def tag : Part → Nat
  | .fr _ => 0
  | .ev _ => 1
  | .ct _ => 2
  | .un _ => 3
  | .ys _ => 4
  | .ms _ => 5
  | .ds _ => 6
def nFREQ : Tx := [70, 82, 69, 81]
def nINTERVAL : Tx := [73, 78, 84, 69, 82, 86, 65, 76]
def nCOUNT : Tx := [67, 79, 85, 78, 84]
def nUNTIL : Tx := [85, 78, 84, 73, 76]
def nBYMONTH : Tx := [66, 89, 77, 79, 78, 84, 72]
def nBYMONTHDAY : Tx := [66, 89, 77, 79, 78, 84, 72, 68, 65, 89]
def nBYDAY : Tx := [66, 89, 68, 65, 89]
def nameOf : Part → Tx
  | .fr _ => nFREQ
  | .ev _ => nINTERVAL
  | .ct _ => nCOUNT
  | .un _ => nUNTIL
  | .ys _ => nBYMONTH
  | .ms _ => nBYMONTHDAY
  | .ds _ => nBYDAY
theorem tag_lt (p : Part) : tag p < 7 := by cases p <;> simp [tag]
theorem name_tag (p q : Part) : nameOf p = nameOf q ↔ tag p = tag q := by cases p <;> cases q <;> simp [nameOf, tag] <;> decide
def Part.set (r : T) : Part → T
  | .fr n => { r with fr := n }
  | .ev n => { r with ev := n }
  | .ct n => { r with ct := n }
  | .un n => { r with un := n }
  | .ys l => { r with ys := l }
  | .ms l => { r with ms := l }
  | .ds l => { r with ds := l }
def r0 : T := ⟨0, 1, 0, -1, [], [], []⟩
def fold (ps : List Part) : T := ps.foldl Part.set r0
/-- a rule says what a part says. -/
def says (r : T) : Part → Prop
  | .fr n => r.fr = n
  | .ev n => r.ev = n
  | .ct n => r.ct = n
  | .un n => r.un = n
  | .ys l => r.ys = l
  | .ms l => r.ms = l
  | .ds l => r.ds = l
theorem says_set (r : T) (p : Part) : says (Part.set r p) p := by cases p <;> rfl
theorem says_keep (r : T) (p q : Part) (h : tag p ≠ tag q) (k : says r p) : says (Part.set r q) p := by cases p <;> cases q <;> first | exact k | exact absurd rfl h
theorem says_foldl (p : Part) : ∀ (ps : List Part) (r : T), (∀ q ∈ ps, tag p ≠ tag q) → says r p → says (ps.foldl Part.set r) p
  | [], _, _, h => h
  | q :: ps, r, h, k => says_foldl p ps _ (fun x hx => h x (List.mem_cons_of_mem _ hx)) (says_keep r p q (h q (by simp)) k)
theorem says_fold : ∀ (ps : List Part) (r : T) (p : Part), (ps.map tag).Nodup → p ∈ ps → says (ps.foldl Part.set r) p
  | [], _, _, _, h => by simp at h
  | q :: ps, r, p, hn, h => by
    rw [List.map_cons, List.nodup_cons] at hn
    rcases List.mem_cons.1 h with rfl | h
    · exact says_foldl p ps _ (fun x hx e => hn.1 (e ▸ List.mem_map.2 ⟨x, hx, rfl⟩)) (says_set r p)
    · exact says_fold ps _ p hn.2 h
theorem set_comm (r : T) (p q : Part) (h : tag p ≠ tag q) : Part.set (Part.set r p) q = Part.set (Part.set r q) p := by cases p <;> cases q <;> first | rfl | exact absurd rfl h
theorem tag_inj : ∀ (ps : List Part), (ps.map tag).Nodup → ∀ p ∈ ps, ∀ q ∈ ps, tag p = tag q → p = q
  | [], _, p, h, _, _, _ => by simp at h
  | x :: ps, hn, p, hp, q, hq, e => by
    rw [List.map_cons, List.nodup_cons] at hn
    rcases List.mem_cons.1 hp with g | g <;> rcases List.mem_cons.1 hq with k | k
    · rw [g, k]
    · exact absurd (List.mem_map.2 ⟨q, k, by rw [← e, g]⟩) hn.1
    · exact absurd (List.mem_map.2 ⟨p, g, by rw [e, k]⟩) hn.1
    · exact tag_inj ps hn.2 p g q k e
theorem fold_perm {ps qs : List Part} (hn : (ps.map tag).Nodup) (h : ps.Perm qs) : fold ps = fold qs := by
  refine List.Perm.foldl_eq' h (fun x hx y hy z => ?_) r0
  by_cases e : tag x = tag y
  · rw [tag_inj ps hn x hx y hy e]
  · exact set_comm z x y e
theorem tags_le {ps : List Part} (hn : (ps.map tag).Nodup) : ps.length ≤ 7 := by
  have := List.Nodup.length_le_of_subset (l₂ := List.range 7) hn fun x hx => by
    obtain ⟨p, _, rfl⟩ := List.mem_map.1 hx
    exact List.mem_range.2 (tag_lt p)
  simpa using this

/-- how the numbers, the lists are read. -/
structure Rd where
  pos : Tx → Option Int
  nums : Bool → Tx → Option (List Int)
  wds : Tx → Option (List Wd)
def ixOf (ws : List Tx) (w : Tx) : Option Nat := match ws with
  | [] => none
  | x :: r => if x = w then some 0 else (ixOf r w).map (· + 1)
def freqWs : List Tx := [[68, 65, 73, 76, 89], [87, 69, 69, 75, 76, 89], [77, 79, 78, 84, 72, 76, 89], [89, 69, 65, 82, 76, 89]]
def dayWs : List Tx := [[77, 79], [84, 85], [87, 69], [84, 72], [70, 82], [83, 65], [83, 85]]
theorem ixOf_some : ∀ {ws : List Tx} {w : Tx} {k : Nat}, ixOf ws w = some k → ws[k]? = some w
  | [], _, _, h => by simp [ixOf] at h
  | x :: r, w, k, h => by
    unfold ixOf at h
    split at h
    · rename_i e; injection h with h; subst h; rw [e]; rfl
    · cases hr : ixOf r w with
      | none => rw [hr] at h; cases h
      | some j => rw [hr] at h; injection h with h; subst h; simpa using ixOf_some hr
theorem ixOf_none : ∀ {ws : List Tx} {w : Tx}, ixOf ws w = none → w ∉ ws
  | [], _, _ => by simp
  | x :: r, w, h => by
    unfold ixOf at h
    split at h
    · cases h
    · rename_i e
      cases hr : ixOf r w with
      | some j => rw [hr] at h; cases h
      | none =>
        intro g
        rcases List.mem_cons.1 g with g | g
        · exact e g.symm
        · exact ixOf_none hr g
def valOf (U : Un) (R : Rd) (name v : Tx) : Option Part :=
  if name = nFREQ then (ixOf freqWs v).map fun k => .fr (k + 1 : Nat)
  else if name = nINTERVAL then (R.pos v).map .ev
  else if name = nCOUNT then (R.pos v).map .ct
  else if name = nUNTIL then (U.f v).map .un
  else if name = nBYMONTH then (R.nums false v).map .ys
  else if name = nBYMONTHDAY then (R.nums true v).map .ms
  else if name = nBYDAY then (R.wds v).map .ds
  else none
theorem val_name {U : Un} {R : Rd} {name v : Tx} {p : Part} (h : valOf U R name v = some p) : name = nameOf p := by
  unfold valOf at h
  repeat' split at h
  all_goals first
    | (rename_i e; rw [Option.map_eq_some_iff] at h; obtain ⟨x, _, rfl⟩ := h; exact e)
    | cases h

/-- the weekday at a text's end, and what is ahead of it. -/
def wdWith (f : Tx → Option Int) (t : Tx) : Option Wd := match ixOf dayWs (t.drop (t.length - 2)) with
  | none => none
  | some d => if t.length = 2 then some (0, (d : Int)) else match f (t.take (t.length - 2)) with
    | none => none
    | some n => if n = 0 then none else some (n, (d : Int))
def posOf (f : Tx → Option Int) (t : Tx) : Option Int := match f t with
  | none => none
  | some n => if 0 < n then some n else none
def listC {α : Type} (lt : α → α → Bool) (f : Tx → Option α) (t : Tx) : Option (List α) := (allSome f (Lib.splitN t [44] 13)).map (srt lt)
def listR {α : Type} [DecidableEq α] (lt : α → α → Bool) (f : Tx → Option α) (t : Tx) : Option (List α) := insAll lt f (cutAt 44 t) []
def rdC : Rd := ⟨posOf numC, fun _ => listC inLt numC, listC wdLt (wdWith numC)⟩
def rdR : Rd := ⟨posOf (decR · false), fun b => listR inLt (decR · b), listR wdLt (wdWith (decR · true))⟩

def partC (U : Un) (t : Tx) : Option Part := if (Lib.cut t [61]).2.2 = true then valOf U rdC (Lib.cut t [61]).1 (Lib.cut t [61]).2.1 else none
def partR (U : Un) (t : Tx) : Option Part := match cutAt 61 t with
  | [n, v] => valOf U rdR n v
  | _ => none
def ans (ps : Option (List Part)) : Option T := match ps with
  | none => none
  | some ps => if (ps.map tag).Nodup ∧ isB (fold ps) = true then some (fold ps) else none
def ansC (U : Un) (s : Tx) : Option T := ans (allSome (partC U) (Lib.splitN s [59] 8))
def ansR (U : Un) (s : Tx) : Option T := ans (allSome (partR U) (cutAt 59 s))

/-- the part of a rule that is one. -/
def good : Part → Prop
  | .ev n => 1 ≤ n ∧ n ≤ 100
  | .ct n => 0 ≤ n ∧ n ≤ 40
  | .ys l => listB moOk inLt 0 l = true
  | .ms l => listB mdOk inLt 0 l = true
  | .ds l => listB wdOk wdLt (0, 0) l = true
  | _ => True
theorem good_says (r : T) (h : recB r = true) (p : Part) (k : says r p) : good p := by
  unfold recB at h
  rw [Bool.and_eq_true, Bool.and_eq_true] at h
  obtain ⟨h1, h2, h3⟩ := h
  unfold rangeB at h1
  unfold wellB at h2
  simp only [Bool.and_eq_true, btw_iff] at h1 h2
  cases p <;> simp only [says] at k <;> simp only [good] <;> subst k
  · exact h1.2.1
  · exact h1.2.2.1
  · exact h2.2.2
  · exact h2.2.1
  · exact h2.1
theorem ev_pos {ps : List Part} (h : ∀ p ∈ ps, ∀ n, p = .ev n → 0 < n) : ∀ r : T, 0 < r.ev → 0 < (ps.foldl Part.set r).ev := by
  induction ps with
  | nil => exact fun r hr => hr
  | cons p ps ih =>
    intro r hr
    refine ih (fun q hq => h q (List.mem_cons_of_mem _ hq)) _ ?_
    cases p with
    | ev n => exact h (.ev n) (by simp) n rfl
    | _ => exact hr
/-- so many at most: the pieces are those of a cut at each. -/
theorem splitN_eq (c : UInt8) (n : Nat) (t : Tx) : Lib.splitN t [c] (n + 1) = Lib.splitK [c] 0 (min n t.length) t := by
  unfold Lib.splitN
  congr 1
  omega
theorem splitN_cut (c : UInt8) (n : Nat) (t : Tx) : (Lib.splitN t [c] (n + 1) = cutAt c t ∧ (cutAt c t).length ≤ n + 1) ∨ ((Lib.splitN t [c] (n + 1)).length = n + 1 ∧ n + 1 < (cutAt c t).length ∧ ∃ p ∈ Lib.splitN t [c] (n + 1), c ∈ p) := by
  rw [splitN_eq]
  have hl := cutAt_len c t
  rcases splitK_cut c (min n t.length) t with ⟨h1, h2⟩ | ⟨h1, h2, h3⟩
  · exact Or.inl ⟨h1, by omega⟩
  · have : min n t.length = n := by omega
    rw [this] at h1 h2 h3 ⊢
    exact Or.inr ⟨h1, h2, h3⟩

theorem num_free {t : Tx} {n : Int} (h : numC t = some n) (c : UInt8) (hc : numc c = false) : c ∉ t := by
  intro g
  obtain ⟨e, _⟩ := (numC_iff t n).1 h
  have := List.all_eq_true.1 (itoa_chars n) c (e ▸ g)
  rw [hc] at this; cases this
theorem dec_free {t : Tx} {b : Bool} {n : Int} (h : decR t b = some n) (c : UInt8) (hc : numc c = false) : c ∉ t := by
  intro g
  obtain ⟨e, _⟩ := (decR_iff t b n).1 h
  have := List.all_eq_true.1 (itoa_chars n) c (e ▸ g)
  rw [hc] at this; cases this
theorem day_free : ∀ w ∈ dayWs, (44 : UInt8) ∉ w ∧ (61 : UInt8) ∉ w ∧ (59 : UInt8) ∉ w := by decide
theorem wd_free {f : Tx → Option Int} {t : Tx} {x : Wd} (c : UInt8) (hw : ∀ w ∈ dayWs, c ∉ w) (hf : ∀ t n, f t = some n → c ∉ t) (h : wdWith f t = some x) : c ∉ t := by
  unfold wdWith at h
  split at h
  · cases h
  · rename_i d hd
    have hm : t.drop (t.length - 2) ∈ dayWs := List.mem_of_getElem? (ixOf_some hd)
    have hdr := hw _ hm
    split at h
    · rename_i h2
      rw [h2] at hdr
      exact hdr
    · split at h
      · cases h
      · rename_i n hn
        intro g
        rw [← List.take_append_drop (t.length - 2) t] at g
        rcases List.mem_append.1 g with g | g
        · exact hf _ _ hn g
        · exact hdr g
/-- both readings of a list come to the same, where it may be one. -/
theorem list_agree {α : Type} [DecidableEq α] {lt : α → α → Bool} (o : Ord lt) (d : α) (fC fR : Tx → Option α) (ok : α → Bool) (hok : ∀ t x, ok x = true → (fC t = some x ↔ fR t = some x)) (hfree : ∀ t x, fC t = some x → (44 : UInt8) ∉ t)
    (t : Tx) (l : List α) (hl : listB ok lt d l = true) : listC lt fC t = some l ↔ listR lt fR t = some l := by
  obtain ⟨h12, hall, hs⟩ := (listB_iff o d l).1 hl
  unfold listC listR
  rw [Option.map_eq_some_iff]
  constructor
  · rintro ⟨xs, hx, rfl⟩
    have hp := srt_perm lt xs
    have hlen := allSome_len hx
    rcases splitN_cut 44 12 t with ⟨h1, _⟩ | ⟨_, _, p, hp2, hc⟩
    · rw [h1] at hx
      refine insAll_of o fR _ [] _ xs List.Pairwise.nil (allSome_change hx fun a _ b hb h => ?_) hs hp
      exact (hok a b (hall b (hp.mem_iff.2 hb))).1 h
    · obtain ⟨b, _, hb⟩ := allSome_mem hx hp2
      exact absurd hc (hfree _ _ hb)
  · intro h
    obtain ⟨xs, hx, _, hp⟩ := insAll_to o fR _ [] l List.Pairwise.nil h
    rw [List.nil_append] at hp
    have hlen := allSome_len hx
    have hxl := hp.length_eq
    have hC : allSome fC (cutAt 44 t) = some xs := allSome_change hx fun a _ b hb h => (hok a b (hall b (hp.mem_iff.2 hb))).2 h
    rcases splitN_cut 44 12 t with ⟨h1, _⟩ | ⟨_, h2, _⟩
    · exact ⟨xs, by rw [h1]; exact hC, (srt_is o hp (hs.weak o)).symm⟩
    · omega
theorem pos_agree (t : Tx) (n : Int) (h : n ≤ 100) : posOf numC t = some n ↔ posOf (decR · false) t = some n := by
  have key : ∀ (f : Tx → Option Int), posOf f t = some n ↔ f t = some n ∧ 0 < n := fun f => by
    unfold posOf
    cases hf : f t with
    | none => simp
    | some m =>
      simp only [Option.some.injEq]
      split
      · rename_i hm; constructor
        · intro g; injection g with g; subst g; exact ⟨rfl, hm⟩
        · rintro ⟨rfl, _⟩; rfl
      · rename_i hm; constructor
        · intro g; cases g
        · rintro ⟨rfl, g⟩; exact absurd g hm
  rw [key, key, numC_iff, decR_iff]
  constructor
  · rintro ⟨⟨h1, h2⟩, h3⟩; exact ⟨⟨h1, by omega, fun _ => by omega⟩, h3⟩
  · rintro ⟨⟨h1, h2, _⟩, h3⟩; exact ⟨⟨h1, by unfold in64; omega⟩, h3⟩
theorem wd_agree (t : Tx) (x : Wd) (h : -5 ≤ x.1 ∧ x.1 ≤ 5) : wdWith numC t = some x ↔ wdWith (decR · true) t = some x := by
  unfold wdWith
  cases hd : ixOf dayWs (t.drop (t.length - 2)) with
  | none => simp
  | some d =>
    simp only
    split
    · exact Iff.rfl
    · have key : ∀ (f : Tx → Option Int) (u : Tx), (match f u with | none => none | some n => if n = 0 then none else some (n, (d : Int)) : Option Wd) = some x ↔ f u = some x.1 ∧ x.1 ≠ 0 ∧ x.2 = d := fun f u => by
        cases hf : f u with
        | none => simp
        | some m =>
          simp only [Option.some.injEq]
          split
          · rename_i hm; constructor
            · intro g; cases g
            · rintro ⟨g, g2, _⟩; exact absurd (g ▸ hm) g2
          · rename_i hm; constructor
            · intro g; injection g with g; subst g; exact ⟨rfl, hm, rfl⟩
            · rintro ⟨g, _, g2⟩; rw [g, ← g2]
      rw [key, key (decR · true), numC_iff, decR_iff]
      constructor
      · rintro ⟨⟨h1, h2⟩, h3⟩; exact ⟨⟨h1, by omega, fun e => by cases e⟩, h3⟩
      · rintro ⟨⟨h1, h2, _⟩, h3⟩; exact ⟨⟨h1, by unfold in64; omega⟩, h3⟩
theorem val_agree (U : Un) (name v : Tx) (p : Part) (h : good p) : valOf U rdC name v = some p ↔ valOf U rdR name v = some p := by
  unfold valOf
  repeat' split
  · exact Iff.rfl
  · rw [Option.map_eq_some_iff, Option.map_eq_some_iff]
    constructor <;> rintro ⟨x, hx, rfl⟩
    · exact ⟨x, (pos_agree v x h.2).1 hx, rfl⟩
    · exact ⟨x, (pos_agree v x h.2).2 hx, rfl⟩
  · rw [Option.map_eq_some_iff, Option.map_eq_some_iff]
    constructor <;> rintro ⟨x, hx, rfl⟩
    · exact ⟨x, (pos_agree v x (by have := h.2; omega)).1 hx, rfl⟩
    · exact ⟨x, (pos_agree v x (by have := h.2; omega)).2 hx, rfl⟩
  · exact Iff.rfl
  · have hok : ∀ t x, moOk x = true → (numC t = some x ↔ decR t false = some x) := fun t x hx => by
      rw [moOk, btw_iff] at hx
      rw [numC_iff, decR_iff]
      exact ⟨fun ⟨a, b⟩ => ⟨a, by omega, fun _ => by omega⟩, fun ⟨a, b, _⟩ => ⟨a, by unfold in64; omega⟩⟩
    rw [Option.map_eq_some_iff, Option.map_eq_some_iff]
    constructor <;> rintro ⟨x, hx, rfl⟩
    · exact ⟨x, (list_agree ordI 0 numC (decR · false) moOk hok (fun t x hx => num_free hx 44 (by decide)) v x h).1 hx, rfl⟩
    · exact ⟨x, (list_agree ordI 0 numC (decR · false) moOk hok (fun t x hx => num_free hx 44 (by decide)) v x h).2 hx, rfl⟩
  · have hok : ∀ t x, mdOk x = true → (numC t = some x ↔ decR t true = some x) := fun t x hx => by
      rw [mdOk, Bool.and_eq_true, btw_iff] at hx
      rw [numC_iff, decR_iff]
      exact ⟨fun ⟨a, b⟩ => ⟨a, by omega, fun e => by cases e⟩, fun ⟨a, b, _⟩ => ⟨a, by unfold in64; omega⟩⟩
    rw [Option.map_eq_some_iff, Option.map_eq_some_iff]
    constructor <;> rintro ⟨x, hx, rfl⟩
    · exact ⟨x, (list_agree ordI 0 numC (decR · true) mdOk hok (fun t x hx => num_free hx 44 (by decide)) v x h).1 hx, rfl⟩
    · exact ⟨x, (list_agree ordI 0 numC (decR · true) mdOk hok (fun t x hx => num_free hx 44 (by decide)) v x h).2 hx, rfl⟩
  · have hok : ∀ t x, wdOk x = true → (wdWith numC t = some x ↔ wdWith (decR · true) t = some x) := fun t x hx => by
      rw [wdOk, Bool.and_eq_true, btw_iff] at hx
      exact wd_agree t x hx.1
    have hfree : ∀ t x, wdWith numC t = some x → (44 : UInt8) ∉ t := fun t x hx => wd_free 44 (fun w hw => (day_free w hw).1) (fun t n hn => num_free hn 44 (by decide)) hx
    rw [Option.map_eq_some_iff, Option.map_eq_some_iff]
    constructor <;> rintro ⟨x, hx, rfl⟩
    · exact ⟨x, (list_agree ordW (0, 0) _ _ wdOk hok hfree v x h).1 hx, rfl⟩
    · exact ⟨x, (list_agree ordW (0, 0) _ _ wdOk hok hfree v x h).2 hx, rfl⟩
  · exact Iff.rfl

/-- a value that is read has no '='. -/
theorem join_mem (c x : UInt8) : ∀ ps : List Tx, x ∈ joinAt c ps → x = c ∨ ∃ p ∈ ps, x ∈ p
  | [], h => by simp [joinAt] at h
  | [p], h => Or.inr ⟨p, by simp, h⟩
  | p :: q :: r, h => by
    rw [joinAt, List.mem_append, List.mem_cons] at h
    rcases h with h | h | h
    · exact Or.inr ⟨p, by simp, h⟩
    · exact Or.inl h
    · rcases join_mem c x (q :: r) h with h | ⟨y, hy, h⟩
      · exact Or.inl h
      · exact Or.inr ⟨y, List.mem_cons_of_mem _ hy, h⟩
theorem list_noeq {α : Type} [DecidableEq α] {lt : α → α → Bool} (o : Ord lt) (f : Tx → Option α) (hf : ∀ t x, f t = some x → (61 : UInt8) ∉ t) {t : Tx} {l : List α} (h : listR lt f t = some l) : (61 : UInt8) ∉ t := by
  intro g
  obtain ⟨xs, hx, _⟩ := insAll_to o f _ [] l List.Pairwise.nil h
  rw [← join_cut 44 t] at g
  rcases join_mem 44 61 _ g with g | ⟨p, hp, g⟩
  · revert g; decide
  · obtain ⟨b, _, hb⟩ := allSome_mem hx hp
    exact hf _ _ hb g
theorem freq_free : ∀ w ∈ freqWs, (61 : UInt8) ∉ w ∧ (59 : UInt8) ∉ w := by decide
theorem val_noeq {U : Un} {name v : Tx} {p : Part} (h : valOf U rdR name v = some p) : (61 : UInt8) ∉ v := by
  have hpos : ∀ n, posOf (decR · false) v = some n → (61 : UInt8) ∉ v := fun n hn => by
    unfold posOf at hn
    split at hn
    · cases hn
    · rename_i m hm; exact dec_free hm 61 (by decide)
  unfold valOf at h
  repeat' split at h
  · rw [Option.map_eq_some_iff] at h; obtain ⟨x, hx, rfl⟩ := h; exact (freq_free _ (List.mem_of_getElem? (ixOf_some hx))).1
  · rw [Option.map_eq_some_iff] at h; obtain ⟨x, hx, rfl⟩ := h; exact hpos x hx
  · rw [Option.map_eq_some_iff] at h; obtain ⟨x, hx, rfl⟩ := h; exact hpos x hx
  · rw [Option.map_eq_some_iff] at h; obtain ⟨x, hx, rfl⟩ := h; exact U.noeq _ _ hx
  · rw [Option.map_eq_some_iff] at h; obtain ⟨x, hx, rfl⟩ := h; exact list_noeq ordI _ (fun t n hn => dec_free hn 61 (by decide)) hx
  · rw [Option.map_eq_some_iff] at h; obtain ⟨x, hx, rfl⟩ := h; exact list_noeq ordI _ (fun t n hn => dec_free hn 61 (by decide)) hx
  · rw [Option.map_eq_some_iff] at h; obtain ⟨x, hx, rfl⟩ := h
    exact list_noeq ordW _ (fun t n hn => wd_free 61 (fun w hw => (day_free w hw).2.1) (fun t n hn => dec_free hn 61 (by decide)) hn) hx
  · cases h
theorem part_agree (U : Un) (t : Tx) (p : Part) (h : good p) : partC U t = some p ↔ partR U t = some p := by
  unfold partC partR
  by_cases hm : (61 : UInt8) ∈ t
  · obtain ⟨a, v, rfl, ha⟩ := split_at 61 t hm
    rw [cut_hit 61 a v ha, cutAt_app 61 v a ha]
    simp only [if_true]
    rw [val_agree U a v p h]
    constructor
    · intro g
      rw [cutAt_none 61 v (val_noeq g)]
      exact g
    · intro g
      obtain ⟨x, r, e⟩ := List.exists_cons_of_ne_nil (cutAt_ne 61 v)
      rw [e] at g
      cases r with
      | nil =>
        simp only at g
        have : v = x := by have := join_cut 61 v; rw [e] at this; exact this.symm
        rw [this]; exact g
      | cons y r => cases g
  · rw [cut_miss 61 t hm, cutAt_none 61 t hm]
    simp
theorem isB_rec (r : T) (h : isB r = true) (he : 0 < r.ev) : recB r = true := by
  unfold isB at h
  rw [Bool.or_eq_true] at h
  rcases h with h | h
  · rw [sameB_iff] at h
    rw [h] at he
    exact absurd he (by decide)
  · exact h
theorem partC_ev {U : Un} {t : Tx} {n : Int} (h : partC U t = some (.ev n)) : 0 < n := by
  unfold partC at h
  split at h
  · unfold valOf at h
    repeat' split at h
    all_goals first
      | (rw [Option.map_eq_some_iff] at h; obtain ⟨x, hx, e⟩ := h; cases e)
      | skip
    all_goals first
      | cases h
      | (unfold rdC posOf at hx
         simp only at hx
         split at hx
         · cases hx
         · split at hx
           · injection hx with hx; omega
           · cases hx)
  · cases h
theorem partR_ev {U : Un} {t : Tx} {n : Int} (h : partR U t = some (.ev n)) : 0 < n := by
  unfold partR at h
  split at h
  · unfold valOf at h
    repeat' split at h
    all_goals first
      | (rw [Option.map_eq_some_iff] at h; obtain ⟨x, hx, e⟩ := h; cases e)
      | skip
    all_goals first
      | cases h
      | (unfold rdR posOf at hx
         simp only at hx
         split at hx
         · cases hx
         · split at hx
           · injection hx with hx; omega
           · cases hx)
  · cases h
theorem ans_some {ps : Option (List Part)} {r : T} : ans ps = some r ↔ ∃ l, ps = some l ∧ (l.map tag).Nodup ∧ isB (fold l) = true ∧ fold l = r := by
  unfold ans
  cases ps with
  | none => simp
  | some l =>
    simp only [Option.some.injEq, exists_eq_left']
    split
    · rename_i h
      simp only [Option.some.injEq]
      exact ⟨fun e => ⟨h.1, h.2, e⟩, fun e => e.2.2⟩
    · rename_i h
      constructor
      · intro e; cases e
      · rintro ⟨a, b, _⟩; exact absurd ⟨a, b⟩ h
theorem fold_rec {ps : List Part} (hn : ∀ p ∈ ps, ∀ n, p = .ev n → 0 < n) (hb : isB (fold ps) = true) : recB (fold ps) = true := isB_rec _ hb (ev_pos hn r0 (by decide))
theorem evs {f : Tx → Option Part} (hf : ∀ t n, f t = some (.ev n) → 0 < n) {ts : List Tx} {ps : List Part} (h : allSome f ts = some ps) : ∀ p ∈ ps, ∀ n, p = .ev n → 0 < n := fun p hp n e => by
  have h1 := (allSome_iff f ts ps).1 h
  have : some p ∈ ts.map f := by rw [h1]; exact List.mem_map.2 ⟨p, hp, rfl⟩
  obtain ⟨t, _, g⟩ := List.mem_map.1 this
  exact hf t n (e ▸ g)
/-- the code's reading is the document's. -/
theorem ans_agree (U : Un) (s : Tx) : ansC U s = ansR U s := by
  apply Option.ext
  intro r
  unfold ansC ansR
  rw [ans_some, ans_some]
  constructor
  · rintro ⟨ps, h1, hn, hb, rfl⟩
    have hl := tags_le hn
    have hlen := allSome_len h1
    have hrec := fold_rec (evs (fun t n => partC_ev) h1) hb
    rcases splitN_cut 59 7 s with ⟨g, _⟩ | ⟨g, _, _⟩
    · rw [g] at h1
      exact ⟨ps, allSome_change h1 fun a _ b hbm h => (part_agree U a b (good_says _ hrec b (says_fold ps r0 b hn hbm))).1 h, hn, hb, rfl⟩
    · have g2 : (Lib.splitN s [59] 8).length = 8 := g
      omega
  · rintro ⟨ps, h1, hn, hb, rfl⟩
    have hl := tags_le hn
    have hlen := allSome_len h1
    have hrec := fold_rec (evs (fun t n => partR_ev) h1) hb
    rcases splitN_cut 59 7 s with ⟨g, _⟩ | ⟨_, g, _⟩
    · refine ⟨ps, ?_, hn, hb, rfl⟩
      rw [g]
      exact allSome_change h1 fun a _ b hbm h => (part_agree U a b (good_says _ hrec b (says_fold ps r0 b hn hbm))).2 h
    · omega

end Go.Proofs.YtpicfpadednnoaaDoor.Rt

/- Plain facts of a rule's text as it is printed: what the code puts together, what the document does; what is printed is read, in whatever order of its parts; no word of a program. -/
namespace Go.Proofs.YtpicfpadednnoaaDoor.Rt
open Go.Proofs.YtpicfpadednnoaaDoor Rul

def dayT (w : Wd) : Tx := if 0 ≤ w.2 ∧ w.2 < 7 then (if w.1 = 0 then [] else Lib.itoa w.1) ++ dayWs.getD w.2.toNat [] else []
def freqT (n : Int) : Tx := freqWs.getD (n.toNat - 1) []
def unlessT (usual n : Int) : Tx := if n = usual then [] else Lib.itoa n
def listT {α : Type} (f : α → Tx) (l : List α) : Tx := joinAt 44 (l.map f)
/-- a part with a name, as it is printed; the empty text if there is nothing to tell. -/
def valT (U : Un) : Part → Tx
  | .fr n => freqT n
  | .ev n => unlessT 1 n
  | .ct n => unlessT 0 n
  | .un n => U.text n
  | .ys l => listT Lib.itoa l
  | .ms l => listT Lib.itoa l
  | .ds l => listT dayT l
def textP (U : Un) (p : Part) : Tx := nameOf p ++ 61 :: valT U p
def allP (r : T) : List Part := [.fr r.fr, .ev r.ev, .ct r.ct, .un r.un, .ys r.ys, .ms r.ms, .ds r.ds]
def fieldsP (U : Un) (r : T) : List Part := (allP r).filter fun p => decide (valT U p ≠ [])
def printE (U : Un) (r : T) : Tx := if (isB r && !sameB r once) = true then joinAt 59 ((fieldsP U r).map (textP U)) else []

theorem listT_nil {α : Type} (f : α → Tx) (hf : ∀ x, f x ≠ []) (l : List α) : listT f l = [] ↔ l = [] := by
  unfold listT
  match l with
  | [] => simp [joinAt]
  | [x] => simp [joinAt, hf x]
  | x :: y :: r => simp [joinAt]
theorem rec_of {r : T} (h : isB r = true) (h0 : r ≠ once) : recB r = true := by
  unfold isB at h
  rw [Bool.or_eq_true] at h
  rcases h with h | h
  · exact absurd ((sameB_iff r once).1 h) h0
  · exact h
/-- what is asked of a rule that is one, number by number. -/
structure Rec (r : T) : Prop where
  f1 : 1 ≤ r.fr
  f2 : r.fr ≤ 4
  e1 : 1 ≤ r.ev
  e2 : r.ev ≤ 100
  c1 : 0 ≤ r.ct
  c2 : r.ct ≤ 40
  u1 : -1 ≤ r.un
  u2 : r.un ≤ 52595999
  cu : r.ct = 0 ∨ r.un = -1
  ds : listB wdOk wdLt (0, 0) r.ds = true
  ms : listB mdOk inLt 0 r.ms = true
  ys : listB moOk inLt 0 r.ys = true
theorem rec_facts {r : T} (h : recB r = true) : Rec r := by
  unfold recB rangeB wellB at h
  simp only [Bool.and_eq_true, btw_iff, Bool.or_eq_true, decide_eq_true_eq] at h
  obtain ⟨⟨⟨h1, h2⟩, ⟨h3, h4⟩, ⟨h5, h6⟩, ⟨h7, h8⟩, h9⟩, ⟨ha, hb, hc⟩, _⟩ := h
  exact ⟨h1, h2, h3, h4, h5, h6, h7, h8, h9, ha, hb, hc⟩

/-- a list that is printed is read. -/
theorem dayT_ne (w : Wd) (h : wdOk w = true) : dayT w ≠ [] := by
  rw [wdOk, Bool.and_eq_true, btw_iff, btw_iff] at h
  have hd : w.2.toNat < 7 := by omega
  unfold dayT
  rw [if_pos (by omega)]
  have : ∀ k : Nat, k < 7 → dayWs.getD k [] ≠ [] := by decide
  have g := this _ hd
  intro e
  exact g (List.append_eq_nil_iff.1 e).2
theorem wd_back (f : Tx → Option Int) (hf : ∀ n, -5 ≤ n → n ≤ 5 → f (Lib.itoa n) = some n) (w : Wd) (h : wdOk w = true) : wdWith f (dayT w) = some w := by
  rw [wdOk, Bool.and_eq_true, btw_iff, btw_iff] at h
  obtain ⟨⟨h1, h2⟩, h3, h4⟩ := h
  obtain ⟨d, hd⟩ : ∃ d : Nat, w.2 = d := ⟨w.2.toNat, by omega⟩
  have hd7 : d < 7 := by omega
  have hw : dayT w = (if w.1 = 0 then [] else Lib.itoa w.1) ++ dayWs.getD d [] := by
    unfold dayT
    rw [if_pos (by omega), hd, Int.toNat_natCast]
  have hlen : ∀ k : Nat, k < 7 → (dayWs.getD k []).length = 2 ∧ ixOf dayWs (dayWs.getD k []) = some k := by decide
  obtain ⟨g1, g2⟩ := hlen d hd7
  rw [hw]
  generalize dayWs.getD d [] = D at *
  generalize hN : (if w.1 = 0 then [] else Lib.itoa w.1) = N
  unfold wdWith
  have e1 : (N ++ D).length - 2 = N.length := by rw [List.length_append]; omega
  rw [e1, List.drop_left, List.take_left, g2]
  simp only
  by_cases h0 : w.1 = 0
  · rw [if_pos h0] at hN
    subst hN
    rw [if_pos (by simpa using g1)]
    exact congrArg some (Prod.ext h0.symm hd.symm)
  · rw [if_neg h0] at hN
    subst hN
    have hp := List.length_pos_iff.2 (itoa_ne w.1)
    rw [if_neg (by rw [List.length_append]; omega), hf w.1 h1 h2]
    simp only
    rw [if_neg h0]
    exact congrArg some (Prod.ext rfl hd.symm)
theorem dayT_free (w : Wd) (c : UInt8) (hc : numc c = false) (hw : ∀ w ∈ dayWs, c ∉ w) : c ∉ dayT w := by
  unfold dayT
  split
  · rename_i hr
    intro g
    rcases List.mem_append.1 g with g | g
    · split at g
      · simp at g
      · have := List.all_eq_true.1 (itoa_chars w.1) c g
        rw [hc] at this; cases this
    · refine hw _ ?_ g
      have : w.2.toNat < dayWs.length := by
        have : dayWs.length = 7 := rfl
        omega
      rw [List.getD_eq_getElem?_getD, List.getElem?_eq_getElem this]
      exact List.getElem_mem _
  · simp
theorem itoa_free (n : Int) (c : UInt8) (hc : numc c = false) : c ∉ Lib.itoa n := fun g => by
  have := List.all_eq_true.1 (itoa_chars n) c g
  rw [hc] at this; cases this
theorem list_back {α : Type} {lt : α → α → Bool} (o : Ord lt) (d : α) (f : Tx → Option α) (g : α → Tx) (ok : α → Bool) (hg : ∀ x, ok x = true → f (g x) = some x) (hfree : ∀ x, (44 : UInt8) ∉ g x) (l : List α) (hl : listB ok lt d l = true) (hne : l ≠ []) : listC lt f (listT g l) = some l := by
  obtain ⟨h12, hall, hs⟩ := (listB_iff o d l).1 hl
  unfold listC listT
  have hc : cutAt 44 (joinAt 44 (l.map g)) = l.map g := cut_join 44 _ (by simpa using hne) (fun p hp => by
    obtain ⟨x, _, rfl⟩ := List.mem_map.1 hp; exact hfree x)
  rcases splitN_cut 44 12 (joinAt 44 (l.map g)) with ⟨h1, _⟩ | ⟨_, h2, _⟩
  · rw [h1, hc]
    have : allSome f (l.map g) = some l := by
      rw [allSome_iff, List.map_map]
      exact List.map_congr_left fun x hx => hg x (hall x hx)
    rw [this, Option.map_some, srt_self o hs]
  · rw [hc, List.length_map] at h2; omega
theorem listT_free {α : Type} (g : α → Tx) (c : UInt8) (hc : c ≠ 44) (hg : ∀ x, c ∉ g x) (l : List α) : c ∉ listT g l := fun h => by
  rcases join_mem 44 c _ h with h | ⟨p, hp, h⟩
  · exact hc h
  · obtain ⟨x, _, rfl⟩ := List.mem_map.1 hp
    exact hg x h

/-- the parts of a rule that is one. -/
theorem val_free (U : Un) (p : Part) (c : UInt8) (h : c = 59 ∨ c = 61) : c ∉ valT U p := by
  have hc : numc c = false := by rcases h with rfl | rfl <;> decide
  have h44 : c ≠ 44 := by rcases h with rfl | rfl <;> decide
  have hd : ∀ w ∈ dayWs, c ∉ w := by rcases h with rfl | rfl <;> decide
  have hf : ∀ w ∈ freqWs, c ∉ w := by rcases h with rfl | rfl <;> decide
  have hu : ∀ a n, c ∉ unlessT a n := fun a n => by
    unfold unlessT; split
    · simp
    · exact itoa_free n c hc
  cases p with
  | fr n =>
    show c ∉ freqWs.getD (n.toNat - 1) []
    rw [List.getD_eq_getElem?_getD]
    cases hk : freqWs[n.toNat - 1]? with
    | none => simp
    | some w => exact hf w (List.mem_of_getElem? hk)
  | ev n => exact hu _ _
  | ct n => exact hu _ _
  | un n => rcases h with rfl | rfl; exact (U.free n).1; exact (U.free n).2
  | ys l => exact listT_free _ c h44 (fun x => itoa_free x c hc) l
  | ms l => exact listT_free _ c h44 (fun x => itoa_free x c hc) l
  | ds l => exact listT_free _ c h44 (fun x => dayT_free x c hc hd) l
theorem name_free (p : Part) : (59 : UInt8) ∉ nameOf p ∧ (61 : UInt8) ∉ nameOf p := by cases p <;> simp only [nameOf] <;> decide
theorem text_free (U : Un) (p : Part) : (59 : UInt8) ∉ textP U p := fun h => by
  unfold textP at h
  rcases List.mem_append.1 h with h | h
  · exact (name_free p).1 h
  · rcases List.mem_cons.1 h with h | h
    · revert h; decide
    · exact val_free U p 59 (Or.inl rfl) h
theorem part_val (U : Un) (p : Part) : partC U (textP U p) = valOf U rdC (nameOf p) (valT U p) := by
  unfold partC textP
  rw [cut_hit 61 _ _ (name_free p).2]
  rfl
theorem part_back (U : Un) (r : T) (h : recB r = true) (p : Part) (hp : p ∈ fieldsP U r) : partC U (textP U p) = some p := by
  have k := rec_facts h
  rw [part_val]
  unfold fieldsP allP at hp
  rw [List.mem_filter, decide_eq_true_eq] at hp
  obtain ⟨hp, hne⟩ := hp
  have hposE : ∀ n, 0 < n → n ≤ 100 → posOf numC (Lib.itoa n) = some n := fun n h1 h2 => by
    unfold posOf; rw [numC_itoa n (by unfold in64; omega)]; simp only; rw [if_pos h1]
  simp only [List.mem_cons, List.not_mem_nil, or_false] at hp
  rcases hp with rfl | rfl | rfl | rfl | rfl | rfl | rfl
  · have : ∀ n : Nat, n < 4 → valOf U rdC nFREQ (freqWs.getD n []) = some (.fr (n + 1 : Nat)) := fun n hn => by
      unfold valOf
      rw [if_pos rfl]
      have : ∀ n : Nat, n < 4 → ixOf freqWs (freqWs.getD n []) = some n := by decide
      rw [this n hn]; rfl
    have h2 := this (r.fr.toNat - 1) (by have := k.f1; have := k.f2; omega)
    rw [show ((r.fr.toNat - 1 + 1 : Nat) : Int) = r.fr by have := k.f1; omega] at h2
    exact h2
  · have hv : valT U (.ev r.ev) = Lib.itoa r.ev := by
      simp only [valT, unlessT] at hne ⊢
      split
      · rename_i e; rw [if_pos e] at hne; exact absurd rfl hne
      · rfl
    rw [hv]
    show valOf U rdC nINTERVAL _ = _
    unfold valOf
    rw [if_neg (by decide), if_pos rfl]
    show (posOf numC _).map _ = _
    rw [hposE _ k.e1 k.e2]; rfl
  · have hv : r.ct ≠ 0 ∧ valT U (.ct r.ct) = Lib.itoa r.ct := by
      simp only [valT, unlessT] at hne ⊢
      split
      · rename_i e; rw [if_pos e] at hne; exact absurd rfl hne
      · rename_i e; exact ⟨e, rfl⟩
    rw [hv.2]
    show valOf U rdC nCOUNT _ = _
    unfold valOf
    rw [if_neg (by decide), if_neg (by decide), if_pos rfl]
    show (posOf numC _).map _ = _
    rw [hposE _ (by have := hv.1; have := k.c1; omega) (by have := k.c2; omega)]; rfl
  · have hu : 0 ≤ r.un := by
      have := k.u1
      rcases (by omega : r.un = -1 ∨ 0 ≤ r.un) with e | e
      · have : valT U (.un r.un) = [] := by rw [e]; exact U.nil
        exact absurd this hne
      · exact e
    show valOf U rdC nUNTIL _ = _
    unfold valOf
    rw [if_neg (by decide), if_neg (by decide), if_neg (by decide), if_pos rfl]
    show (U.f (U.text r.un)).map _ = _
    rw [U.back _ hu (by have := k.u2; omega)]; rfl
  · have hn : r.ys ≠ [] := fun e => hne (by show listT _ r.ys = []; rw [e]; rfl)
    show valOf U rdC nBYMONTH _ = _
    unfold valOf
    rw [if_neg (by decide), if_neg (by decide), if_neg (by decide), if_neg (by decide), if_pos rfl]
    show (listC inLt numC (listT Lib.itoa r.ys)).map _ = _
    rw [list_back ordI 0 numC Lib.itoa moOk (fun x hx => numC_itoa x (by rw [moOk, btw_iff] at hx; unfold in64; omega)) (fun x => itoa_free x 44 (by decide)) r.ys k.ys hn]; rfl
  · have hn : r.ms ≠ [] := fun e => hne (by show listT _ r.ms = []; rw [e]; rfl)
    show valOf U rdC nBYMONTHDAY _ = _
    unfold valOf
    rw [if_neg (by decide), if_neg (by decide), if_neg (by decide), if_neg (by decide), if_neg (by decide), if_pos rfl]
    show (listC inLt numC (listT Lib.itoa r.ms)).map _ = _
    rw [list_back ordI 0 numC Lib.itoa mdOk (fun x hx => numC_itoa x (by rw [mdOk, Bool.and_eq_true, btw_iff] at hx; unfold in64; omega)) (fun x => itoa_free x 44 (by decide)) r.ms k.ms hn]; rfl
  · have hn : r.ds ≠ [] := fun e => hne (by show listT _ r.ds = []; rw [e]; rfl)
    show valOf U rdC nBYDAY _ = _
    unfold valOf
    rw [if_neg (by decide), if_neg (by decide), if_neg (by decide), if_neg (by decide), if_neg (by decide), if_neg (by decide), if_pos rfl]
    show (listC wdLt (wdWith numC) (listT dayT r.ds)).map _ = _
    rw [list_back ordW (0, 0) (wdWith numC) dayT wdOk (fun x hx => wd_back numC (fun n h1 h2 => numC_itoa n (by unfold in64; omega)) x hx) (fun x => dayT_free x 44 (by decide) (fun w hw => (day_free w hw).1)) r.ds k.ds hn]; rfl
theorem tags_all (r : T) : ((allP r).map tag).Nodup := by
  have : (allP r).map tag = [0, 1, 2, 3, 4, 5, 6] := rfl
  rw [this]; decide
theorem tags_fields (U : Un) (r : T) : ((fieldsP U r).map tag).Nodup := by
  unfold fieldsP
  exact List.Sublist.nodup (List.Sublist.map tag List.filter_sublist) (tags_all r)
theorem set_same {r : T} {p : Part} (h : says r p) : Part.set r p = r := by
  obtain ⟨a, b, c, d, x, y, z⟩ := r
  cases p <;> simp only [says] at h <;> subst h <;> rfl
/-- each part says what the rule has; where none is printed, the rule has what it begins with. -/
theorem fold_fields (U : Un) (r : T) (h : recB r = true) : fold (fieldsP U r) = r := by
  have k := rec_facts h
  have hd0 : ∀ w ∈ r.ds, wdOk w = true := ((listB_iff ordW (0, 0) r.ds).1 k.ds).2.1
  have key : ∀ p ∈ allP r, valT U p = [] → says r0 p := by
    intro p hp hv
    simp only [allP, List.mem_cons, List.not_mem_nil, or_false] at hp
    rcases hp with rfl | rfl | rfl | rfl | rfl | rfl | rfl
    · have : ∀ n : Nat, n < 4 → freqWs.getD n [] ≠ [] := by decide
      exact absurd hv (this (r.fr.toNat - 1) (by have := k.f1; have := k.f2; omega))
    · simp only [valT, unlessT] at hv
      split at hv
      · rename_i e; exact e.symm
      · exact absurd hv (itoa_ne _)
    · simp only [valT, unlessT] at hv
      split at hv
      · rename_i e; exact e.symm
      · exact absurd hv (itoa_ne _)
    · have := k.u1
      rcases (by omega : r.un = -1 ∨ 0 ≤ r.un) with e | e
      · exact e.symm
      · exact absurd hv (U.some _ e (by have := k.u2; omega))
    · exact ((listT_nil _ itoa_ne r.ys).1 hv).symm
    · exact ((listT_nil _ itoa_ne r.ms).1 hv).symm
    · show [] = r.ds
      cases hds : r.ds with
      | nil => rfl
      | cons w l =>
        have hw := dayT_ne w (hd0 w (by rw [hds]; simp))
        have hv2 : listT dayT r.ds = [] := hv
        rw [hds] at hv2
        unfold listT at hv2
        cases l with
        | nil => exact absurd hv2 hw
        | cons x l => simp [joinAt] at hv2
  have gen : ∀ (ps : List Part) (q : T), (ps.map tag).Nodup → (∀ p ∈ ps, valT U p = [] → says q p) → (ps.filter fun p => decide (valT U p ≠ [])).foldl Part.set q = ps.foldl Part.set q := by
    intro ps
    induction ps with
    | nil => intro q _ _; rfl
    | cons p ps ih =>
      intro q hn hq
      rw [List.map_cons, List.nodup_cons] at hn
      have hrest : ∀ x ∈ ps, tag x ≠ tag p := fun x hx e => hn.1 (List.mem_map.2 ⟨x, hx, e⟩)
      by_cases hv : valT U p = []
      · rw [List.filter_cons_of_neg (by simpa using hv), List.foldl_cons, set_same (hq p (by simp) hv)]
        exact ih q hn.2 fun x hx => hq x (List.mem_cons_of_mem _ hx)
      · rw [List.filter_cons_of_pos (by simpa using hv), List.foldl_cons, List.foldl_cons]
        exact ih _ hn.2 fun x hx g => says_keep q x p (hrest x hx) (hq x (List.mem_cons_of_mem _ hx) g)
  have e := gen (allP r) r0 (tags_all r) key
  unfold fold fieldsP
  rw [e]
  rfl
theorem fields_ne (U : Un) (r : T) (h : recB r = true) : fieldsP U r ≠ [] := by
  intro e
  have := fold_fields U r h
  rw [e] at this
  have k := rec_facts h
  rw [← this] at k
  have := k.f1
  revert this; decide
/-- a text of such parts in whatever order is read as the rule. -/
theorem back_perm (U : Un) (r : T) (h : recB r = true) (ps : List Part) (hp : ps.Perm (fieldsP U r)) : ansC U (joinAt 59 (ps.map (textP U))) = some r := by
  have hn : (ps.map tag).Nodup := (hp.map tag).symm.nodup (tags_fields U r)
  have hl := tags_le hn
  have hne : ps ≠ [] := fun e => fields_ne U r h (List.perm_nil.1 (by rw [e] at hp; exact hp.symm))
  have hc : cutAt 59 (joinAt 59 (ps.map (textP U))) = ps.map (textP U) := cut_join 59 _ (by simpa using hne) (fun p hpp => by
    obtain ⟨x, _, rfl⟩ := List.mem_map.1 hpp; exact text_free U x)
  have hf : fold ps = r := by rw [fold_perm hn hp, fold_fields U r h]
  unfold ansC
  rw [ans_some]
  refine ⟨ps, ?_, hn, by rw [hf]; unfold isB; rw [h, Bool.or_true], hf⟩
  rcases splitN_cut 59 7 (joinAt 59 (ps.map (textP U))) with ⟨g, _⟩ | ⟨_, g, _⟩
  · rw [g, hc, allSome_iff, List.map_map]
    exact List.map_congr_left fun p hpp => part_back U r h p (hp.mem_iff.1 hpp)
  · rw [hc, List.length_map] at g; omega
theorem ans_none_of {U : Un} {s : Tx} (h : ∀ ps, allSome (partR U) (cutAt 59 s) = some ps → (ps.map tag).Nodup → False) : ansC U s = none := by
  rw [ans_agree]
  unfold ansR
  cases hr : ans (allSome (partR U) (cutAt 59 s)) with
  | none => rfl
  | some r =>
    obtain ⟨l, h1, h2, _⟩ := ans_some.1 hr
    exact absurd h2 (fun g => h l h1 g)
/-- a part twice is none; neither is an empty one. -/
theorem twice_none (U : Un) (ts : List Tx) (hts : ts ≠ []) (hfree : ∀ t ∈ ts, (59 : UInt8) ∉ t) (x : Tx) (hx : x ∈ ts) : ansC U (joinAt 59 ts ++ 59 :: x) = none := by
  refine ans_none_of fun ps h hn => ?_
  rw [← join_snoc 59 x ts hts, cut_join 59 _ (by simp) (fun p hp => by
    rcases List.mem_append.1 hp with g | g
    · exact hfree p g
    · rw [List.mem_singleton.1 g]; exact hfree x hx)] at h
  rw [allSome_iff, List.map_append] at h
  obtain ⟨as, bs, e, h1, h2⟩ := List.map_eq_append_iff.1 h.symm
  obtain ⟨p, hp, g⟩ : ∃ p ∈ as, partR U x = some p := by
    have : partR U x ∈ ts.map (partR U) := List.mem_map.2 ⟨x, hx, rfl⟩
    rw [← h1] at this
    obtain ⟨p, hp, g⟩ := List.mem_map.1 this
    exact ⟨p, hp, g.symm⟩
  have hb : bs = [p] := by
    rw [List.map_singleton, g] at h2
    cases bs with
    | nil => cases h2
    | cons b bs =>
      simp only [List.map_cons, List.cons.injEq, List.map_eq_nil_iff, Option.some.injEq] at h2
      rw [h2.1, h2.2]
  subst e hb
  rw [List.map_append, List.nodup_append] at hn
  exact hn.2.2 (tag p) (List.mem_map.2 ⟨p, hp, rfl⟩) (tag p) (by simp) rfl
theorem empty_none (U : Un) (s : Tx) : ansC U (s ++ [59]) = none := by
  refine ans_none_of fun ps h hn => ?_
  rw [cutAt_snoc, if_pos rfl] at h
  obtain ⟨b, _, g⟩ := allSome_mem h (a := []) (by simp)
  have : partR U [] = none := by unfold partR; rw [cutAt]
  rw [this] at g; cases g

end Go.Proofs.YtpicfpadednnoaaDoor.Rt

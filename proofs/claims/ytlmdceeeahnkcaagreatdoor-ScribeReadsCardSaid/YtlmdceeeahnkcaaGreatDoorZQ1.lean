/- DeMath; DeMathB; ScMath; ScMathB; ScMathC; ScMathD of the recipes, what is needed of them. -/
import Derived.Test.YtlmdceeeahnkcaaGreatDoorBM1
import Derived.Test.YtlmdceeeahnkcaaGreatDoorBM2
namespace Go.Proofs.YtlmdceeeahnkcaaGreatDoor.De
open Go.Proofs.YtlmdceeeahnkcaaGreatDoor Rul Cl

/-- a number: its own, its site. -/
abbrev Nm := Int × Int
/-- a booking. -/
structure B where
  id : Nm
  st : Int
  e : Ev.E
/-- a deed. -/
structure D where
  kd : Int
  id : Nm
  e : Ev.E
  cl : List C
  pe : Int
  n : Int
  b : B
def seqB (x : Int) : Bool := decide (1 ≤ x) && decide (x ≤ 1000000)
def peB (x : Int) : Bool := decide (0 ≤ x) && decide (x < 4)
def idB (i : Nm) : Bool := seqB i.1 && peB i.2
def idE (a b : Nm) : Bool := decide (a.1 = b.1) && decide (a.2 = b.2)
def stB (x : Int) : Bool := decide (x = 2) || decide (x = 4)
def bkB (b : B) : Bool := idB b.id && (Ev.isE b.e && stB b.st)
def sameBk (a b : B) : Bool := idE a.id b.id && (decide (a.st = b.st) && Ev.sameE a.e b.e)
def sameD (a b : D) : Bool := decide (a.kd = b.kd) && (idE a.id b.id && (Ev.sameE a.e b.e && (decide (a.cl = b.cl) && (decide (a.pe = b.pe) && (decide (a.n = b.n) && sameBk a.b b.b)))))
def e0 : Ev.E := ⟨[], [], 0, 0, [], ⟨0, 0, 0, 0, [], [], []⟩, []⟩
def b0 : B := ⟨(0, 0), 0, e0⟩
def neatB (l : List C) : Bool := decide (0 < l.length) && (decide (l.length ≤ 160) && decide (l = neatC l))
/-- the deed that has of another's fields those that its kind uses. -/
def bare (d : D) : D :=
  if d.kd = 1 ∨ d.kd = 2 then ⟨d.kd, d.id, d.e, [], 0, 0, b0⟩
  else if d.kd = 3 ∨ d.kd = 4 then ⟨d.kd, d.id, e0, [], 0, 0, b0⟩
  else if d.kd = 5 ∨ d.kd = 6 then ⟨d.kd, (0, 0), e0, d.cl, d.pe, d.n, b0⟩
  else if d.kd = 7 then ⟨d.kd, (0, 0), e0, [], d.pe, d.n, b0⟩
  else ⟨d.kd, (0, 0), e0, [], d.pe, d.n, d.b⟩
/-- what its kind asks of the fields that it uses. -/
def ask (d : D) : Bool :=
  if d.kd = 1 ∨ d.kd = 2 then idB d.id && Ev.isE d.e
  else if d.kd = 3 ∨ d.kd = 4 then idB d.id
  else if d.kd = 5 ∨ d.kd = 6 then neatB d.cl && (peB d.pe && seqB d.n)
  else if d.kd = 7 then peB d.pe && seqB d.n
  else if d.kd = 8 then peB d.pe && (seqB d.n && (bkB d.b && decide (d.b.id.2 = d.pe)))
  else false
/-- the code's. -/
def isD (d : D) : Bool := ask d && sameD d (bare d)
/-- the document's. -/
def isR (d : D) : Bool :=
  let noID := idE d.id (0, 0)
  let noE := Ev.sameE d.e e0
  let noC := decide (d.cl.length = 0)
  let noP := decide (d.pe = 0) && decide (d.n = 0)
  let noB := sameBk d.b b0
  if d.kd = 1 ∨ d.kd = 2 then idB d.id && (Ev.isE d.e && (noC && (noP && noB)))
  else if d.kd = 3 ∨ d.kd = 4 then idB d.id && (noE && (noC && (noP && noB)))
  else if d.kd = 5 ∨ d.kd = 6 then noID && (noE && (neatB d.cl && (peB d.pe && (seqB d.n && noB))))
  else if d.kd = 7 then noID && (noE && (noC && (peB d.pe && (seqB d.n && noB))))
  else if d.kd = 8 then noID && (noE && (noC && (peB d.pe && (seqB d.n && (bkB d.b && decide (d.b.id.2 = d.pe))))))
  else false
theorem idE_iff (a b : Nm) : idE a b = true ↔ a = b := by
  unfold idE; simp only [Bool.and_eq_true, decide_eq_true_eq]; exact ⟨fun ⟨x, y⟩ => Prod.ext x y, fun h => by subst h; exact ⟨rfl, rfl⟩⟩
theorem idE_self (a : Nm) : idE a a = true := (idE_iff a a).2 rfl
theorem sameBk_iff (a b : B) : sameBk a b = true ↔ a = b := by
  obtain ⟨i, s, e⟩ := a; obtain ⟨j, t, f⟩ := b
  simp only [sameBk, Bool.and_eq_true, decide_eq_true_eq, idE_iff, Ev.sameE_iff, B.mk.injEq]
theorem sameBk_self (a : B) : sameBk a a = true := (sameBk_iff a a).2 rfl
theorem sameD_iff (a b : D) : sameD a b = true ↔ a = b := by
  obtain ⟨k, i, e, c, p, n, x⟩ := a; obtain ⟨k', i', e', c', p', n', x'⟩ := b
  simp only [sameD, Bool.and_eq_true, decide_eq_true_eq, idE_iff, Ev.sameE_iff, sameBk_iff, D.mk.injEq]
theorem sameD_self (a : D) : sameD a a = true := (sameD_iff a a).2 rfl
theorem sameD_no {a b : D} (h : a ≠ b) : sameD a b = false := by rw [Bool.eq_false_iff]; exact fun g => h ((sameD_iff a b).1 g)
theorem isD_isR (d : D) : isD d = isR d := by
  obtain ⟨k, i, e, c, p, n, b⟩ := d
  unfold isD ask bare isR
  dsimp only
  by_cases h1 : k = 1 ∨ k = 2
  · simp only [if_pos h1, sameD, idE_self, Ev.sameE_self, decide_true, Bool.true_and, List.length_eq_zero_iff, Bool.and_assoc]
  by_cases h2 : k = 3 ∨ k = 4
  · simp only [if_neg h1, if_pos h2, sameD, idE_self, decide_true, Bool.true_and, List.length_eq_zero_iff, Bool.and_assoc]
  by_cases h3 : k = 5 ∨ k = 6
  · simp only [if_neg h1, if_neg h2, if_pos h3, sameD, decide_true, Bool.true_and]
    cases neatB c <;> cases peB p <;> cases seqB n <;> cases idE i (0, 0) <;> cases Ev.sameE e e0 <;> rfl
  by_cases h4 : k = 7
  · simp only [if_neg h1, if_neg h2, if_neg h3, if_pos h4, sameD, decide_true, Bool.true_and, List.length_eq_zero_iff]
    cases peB p <;> cases seqB n <;> cases idE i (0, 0) <;> cases Ev.sameE e e0 <;> cases decide (c = []) <;> rfl
  by_cases h5 : k = 8
  · simp only [if_neg h1, if_neg h2, if_neg h3, if_neg h4, if_pos h5, sameD, sameBk_self, decide_true, Bool.true_and, List.length_eq_zero_iff, Bool.and_true]
    cases peB p <;> cases seqB n <;> cases idE i (0, 0) <;> cases Ev.sameE e e0 <;> cases decide (c = []) <;> cases bkB b <;> cases decide (b.id.2 = p) <;> rfl
  · simp only [if_neg h1, if_neg h2, if_neg h3, if_neg h4, if_neg h5, Bool.false_and]
theorem isD_bare {d : D} (h : isD d = true) : d = bare d := by
  unfold isD at h; rw [Bool.and_eq_true] at h; exact (sameD_iff _ _).1 h.2
theorem isD_ask {d : D} (h : isD d = true) : ask d = true := by
  unfold isD at h; rw [Bool.and_eq_true] at h; exact h.1
end Go.Proofs.YtlmdceeeahnkcaaGreatDoor.De
namespace Go.Proofs.YtlmdceeeahnkcaaGreatDoor.De
open Go.Proofs.YtlmdceeeahnkcaaGreatDoor Rul Cl Spn

theorem five {k : Int} {P : Prop} (h1 : k = 1 ∨ k = 2 → P) (h3 : ¬ (k = 1 ∨ k = 2) → k = 3 ∨ k = 4 → P) (h5 : ¬ (k = 1 ∨ k = 2) → ¬ (k = 3 ∨ k = 4) → k = 5 ∨ k = 6 → P) (h7 : ¬ (k = 1 ∨ k = 2) → ¬ (k = 3 ∨ k = 4) → ¬ (k = 5 ∨ k = 6) → k = 7 → P) (h8 : ¬ (k = 1 ∨ k = 2) → ¬ (k = 3 ∨ k = 4) → ¬ (k = 5 ∨ k = 6) → ¬ k = 7 → P) : P := by
  by_cases q1 : k = 1 ∨ k = 2
  · exact h1 q1
  by_cases q3 : k = 3 ∨ k = 4
  · exact h3 q1 q3
  by_cases q5 : k = 5 ∨ k = 6
  · exact h5 q1 q3 q5
  by_cases q7 : k = 7
  · exact h7 q1 q3 q5 q7
  · exact h8 q1 q3 q5 q7
theorem ask8 {d : D} (h : De.ask d = true) (n1 : ¬ (d.kd = 1 ∨ d.kd = 2)) (n3 : ¬ (d.kd = 3 ∨ d.kd = 4)) (n5 : ¬ (d.kd = 5 ∨ d.kd = 6)) (n7 : ¬ d.kd = 7) : d.kd = 8 ∧ peB d.pe = true ∧ seqB d.n = true ∧ bkB d.b = true := by
  unfold De.ask at h
  rw [if_neg n1, if_neg n3, if_neg n5, if_neg n7] at h
  by_cases q : d.kd = 8
  · rw [if_pos q] at h
    simp only [Bool.and_eq_true] at h
    exact ⟨q, h.1, h.2.1, h.2.2.1⟩
  · rw [if_neg q] at h; cases h
theorem neatB_ok {l : List C} (h : neatB l = true) : l = neatC l ∧ l.length ≤ 160 ∧ 0 < l.length := by
  unfold neatB at h; simp only [Bool.and_eq_true, decide_eq_true_eq] at h; exact ⟨h.2.2, h.2.1, h.1⟩
end Go.Proofs.YtlmdceeeahnkcaaGreatDoor.De
namespace Go.Proofs.YtlmdceeeahnkcaaGreatDoor.Sc
open Go.Proofs.YtlmdceeeahnkcaaGreatDoor Rul Rt Cl De

/-- ahead of the first blank, and behind it. -/
def cw (t : Tx) : Tx := (Lib.cut t [32]).1
def cr (t : Tx) : Tx := (Lib.cut t [32]).2.1
/-- the text of numbers. -/
def jn (ns : List Int) : Tx := joinAt 32 (ns.map Lib.itoa)
theorem free32 (n : Int) : (32 : UInt8) ∉ Lib.itoa n := fun h => by
  have := List.all_eq_true.1 (itoa_chars n) _ h
  revert this; decide
theorem jn_nil : jn [] = [] := rfl
theorem jn_one (n : Int) : jn [n] = Lib.itoa n := rfl
theorem jn_two (n m : Int) (l : List Int) : jn (n :: m :: l) = Lib.itoa n ++ 32 :: jn (m :: l) := rfl
theorem jn_ne (n : Int) (l : List Int) : jn (n :: l) ≠ [] := by
  have h := itoa_ne n
  cases l with
  | nil => exact h
  | cons m l => rw [jn_two]; intro e; exact h (List.append_eq_nil_iff.1 e).1
theorem cw_hit (p q : Tx) (h : (32 : UInt8) ∉ p) : cw (p ++ 32 :: q) = p := by unfold cw; rw [cut_hit 32 p q h]
theorem cr_hit (p q : Tx) (h : (32 : UInt8) ∉ p) : cr (p ++ 32 :: q) = q := by unfold cr; rw [cut_hit 32 p q h]
theorem cw_miss (p : Tx) (h : (32 : UInt8) ∉ p) : cw p = p := by unfold cw; rw [cut_miss 32 p h]
theorem cr_miss (p : Tx) (h : (32 : UInt8) ∉ p) : cr p = [] := by unfold cr; rw [cut_miss 32 p h]
theorem cw_jn (n : Int) (l : List Int) : cw (jn (n :: l)) = Lib.itoa n := by
  cases l with
  | nil => exact cw_miss _ (free32 n)
  | cons m l => rw [jn_two]; exact cw_hit _ _ (free32 n)
theorem cr_jn (n : Int) (l : List Int) : cr (jn (n :: l)) = jn l := by
  cases l with
  | nil => exact cr_miss _ (free32 n)
  | cons m l => rw [jn_two]; exact cr_hit _ _ (free32 n)
theorem cr_lt {t : Tx} (h : t ≠ []) : (cr t).length < t.length := by
  by_cases g : (32 : UInt8) ∈ t
  · obtain ⟨p, q, e, hp⟩ := split_at 32 t g
    subst e
    rw [cr_hit p q hp]; simp; omega
  · rw [cr_miss t g]; exact List.length_pos_iff.2 h
theorem cr_le (t : Tx) : (cr t).length ≤ t.length := by
  by_cases h : t = []
  · subst h; rw [cr_miss [] (by simp)]; simp
  · exact Nat.le_of_lt (cr_lt h)
theorem cw_le (t : Tx) : (cw t).length ≤ t.length := by
  by_cases g : (32 : UInt8) ∈ t
  · obtain ⟨p, q, e, hp⟩ := split_at 32 t g
    subst e
    rw [cw_hit p q hp]; simp
  · rw [cw_miss t g]; exact Nat.le_refl _

/-- what Atoi makes of a text, its error left out. -/
def nv (t : Tx) : Int := match Lib.atoiAll t with
  | .ok n => n
  | .range => Lib.atoiSat t
  | _ => 0
def num (t : Tx) : Int × Tx := (nv (cw t), cr t)
theorem nv_itoa (n : Int) (h : in64 n) : nv (Lib.itoa n) = n := by unfold nv; rw [atoi_itoa n h]
theorem num_jn (n : Int) (ns : List Int) (h : in64 n) : num (jn (n :: ns)) = (n, jn ns) := by
  unfold num; rw [cw_jn, cr_jn, nv_itoa n h]

section
variable {α : Type}
/-- elements, as many as there shall be, but none of no text. -/
def takeE (el : Tx → α × Tx) : Nat → Int → Tx → List α × Tx
  | 0, _, t => ([], t)
  | f + 1, n, t => if 0 < n ∧ t ≠ [] then ((el t).1 :: (takeE el f (n - 1) (el t).2).1, (takeE el f (n - 1) (el t).2).2) else ([], t)
def lst (el : Tx → α × Tx) (t : Tx) : List α × Tx := takeE el (num t).2.length (num t).1 (num t).2
/-- each element takes of a text. -/
def Eats (el : Tx → α × Tx) : Prop := ∀ t, t ≠ [] → (el t).2.length < t.length
theorem takeE_stop (el : Tx → α × Tx) (f : Nat) (n : Int) (t : Tx) (h : ¬ (0 < n ∧ t ≠ [])) : takeE el f n t = ([], t) := by
  cases f with
  | zero => rfl
  | succ f => rw [takeE, if_neg h]
theorem takeE_go (el : Tx → α × Tx) (f : Nat) (n : Int) (t : Tx) (h : 0 < n) (g : t ≠ []) (hf : t.length ≤ f) :
    takeE el f n t = ((el t).1 :: (takeE el (f - 1) (n - 1) (el t).2).1, (takeE el (f - 1) (n - 1) (el t).2).2) := by
  cases f with
  | zero => exact absurd (List.eq_nil_of_length_eq_zero (by omega)) g
  | succ f => rw [takeE, if_pos ⟨h, g⟩]; rfl
theorem takeE_len (el : Tx → α × Tx) : ∀ (f : Nat) (n : Int) (t : Tx), (takeE el f n t).1.length ≤ f
  | 0, _, _ => by simp [takeE]
  | f + 1, n, t => by
    rw [takeE]; split
    · have := takeE_len el f (n - 1) (el t).2; simp only [List.length_cons]; omega
    · simp
theorem takeE_le {el : Tx → α × Tx} (he : Eats el) : ∀ (f : Nat) (n : Int) (t : Tx), (takeE el f n t).2.length ≤ t.length
  | 0, _, _ => by simp [takeE]
  | f + 1, n, t => by
    rw [takeE]; split
    · rename_i h
      have h1 := takeE_le he f (n - 1) (el t).2
      have h2 := he t h.2
      simp only; omega
    · simp
theorem lst_le {el : Tx → α × Tx} (he : Eats el) (t : Tx) : (lst el t).2.length ≤ t.length :=
  Nat.le_trans (takeE_le he _ _ _) (cr_le t)
theorem lst_len (el : Tx → α × Tx) (t : Tx) : (lst el t).1.length ≤ t.length := Nat.le_trans (takeE_len el _ _ _) (cr_le t)
theorem jn_len_ge : ∀ ns : List Int, ns.length ≤ (jn ns).length
  | [] => Nat.zero_le _
  | [n] => by have := List.length_pos_iff.2 (itoa_ne n); simp only [jn_one, List.length_cons, List.length_nil]; omega
  | n :: m :: l => by
    have h1 := List.length_pos_iff.2 (itoa_ne n)
    have h2 := jn_len_ge (m :: l)
    rw [jn_two, List.length_append, List.length_cons]
    simp only [List.length_cons] at h2 ⊢; omega
theorem flat_ge (f : α → List Int) (hf : ∀ x, f x ≠ []) : ∀ l : List α, l.length ≤ (l.flatMap f).length
  | [] => by simp
  | x :: l => by
    have h1 := List.length_pos_iff.2 (hf x)
    have h2 := flat_ge f hf l
    rw [List.flatMap_cons, List.length_append, List.length_cons]; omega
theorem take_jn (el : Tx → α × Tx) (f : α → List Int) (hf : ∀ x, f x ≠ []) : ∀ (l : List α) (F : Nat) (ns : List Int), l.length ≤ F → (∀ x ∈ l, ∀ ns, el (jn (f x ++ ns)) = (x, jn ns)) →
    takeE el F (l.length : Int) (jn (l.flatMap f ++ ns)) = (l, jn ns)
  | [], F, ns, _, _ => by rw [takeE_stop _ _ _ _ (by simp)]; rfl
  | x :: l, 0, ns, h, _ => by simp at h
  | x :: l, F + 1, ns, h, he => by
    have e1 : jn ((x :: l).flatMap f ++ ns) = jn (f x ++ (l.flatMap f ++ ns)) := by rw [List.flatMap_cons, List.append_assoc]
    have e2 := he x (by simp) (l.flatMap f ++ ns)
    have e3 : jn (f x ++ (l.flatMap f ++ ns)) ≠ [] := by
      obtain ⟨n, r, e⟩ := List.exists_cons_of_ne_nil (hf x)
      rw [e]; exact jn_ne _ _
    have e4 : (((x :: l).length : Nat) : Int) - 1 = (l.length : Int) := by rw [List.length_cons]; omega
    rw [e1, takeE, if_pos ⟨by rw [List.length_cons]; omega, e3⟩, e4, e2]
    simp only
    rw [take_jn el f hf l F ns (by simpa using h) fun y hy => he y (by simp [hy])]
theorem lst_jn (el : Tx → α × Tx) (f : α → List Int) (hf : ∀ x, f x ≠ []) (l : List α) (ns : List Int) (hl : in64 (l.length : Int)) (he : ∀ x ∈ l, ∀ ns, el (jn (f x ++ ns)) = (x, jn ns)) :
    lst el (jn ((l.length : Int) :: (l.flatMap f ++ ns))) = (l, jn ns) := by
  unfold lst
  rw [num_jn _ _ hl]
  refine take_jn el f hf l _ ns ?_ he
  refine Nat.le_trans (flat_ge f hf l) (Nat.le_trans ?_ (jn_len_ge _))
  rw [List.length_append]; omega
end

/-- a letter, a weekday, a claim of a text. -/
def ltr (t : Tx) : UInt8 × Tx := (UInt8.ofNat ((num t).1 % 256).toNat, (num t).2)
def wdy (t : Tx) : Wd × Tx := (((num t).1, (num (num t).2).1), (num (num t).2).2)
def clm (t : Tx) : C × Tx := (((num t).1, ((num (num t).2).1, (num (num (num t).2).2).1)), (num (num (num t).2).2).2)
theorem eats_num : Eats num := fun _ h => cr_lt h
theorem eats_ltr : Eats ltr := fun _ h => cr_lt h
theorem num_le (t : Tx) : (num t).2.length ≤ t.length := cr_le t
theorem eats_wdy : Eats wdy := fun t h => Nat.lt_of_le_of_lt (num_le (num t).2) (cr_lt h)
theorem eats_clm : Eats clm := fun t h => Nat.lt_of_le_of_lt (Nat.le_trans (num_le (num (num t).2).2) (num_le (num t).2)) (cr_lt h)
/-- a rule, an event, a number, a booking. -/
def rulE (t : Tx) : Rul.T × Tx :=
  let a := num t; let b := num a.2; let c := num b.2; let d := num c.2
  let x := lst wdy d.2; let y := lst num x.2; let z := lst num y.2
  (⟨a.1, b.1, c.1, d.1, x.1, y.1, z.1⟩, z.2)
def evtE (t : Tx) : Ev.E × Tx :=
  let a := lst ltr t; let b := lst ltr a.2; let c := num b.2; let d := num c.2
  let x := lst num d.2; let y := rulE x.2; let z := lst num y.2
  (⟨a.1, b.1, c.1, d.1, x.1, y.1, z.1⟩, z.2)
def idnE (t : Tx) : Nm × Tx := (((num t).1, (num (num t).2).1), (num (num t).2).2)
def bkgE (t : Tx) : B × Tx :=
  let a := idnE t; let b := num a.2; let c := evtE b.2
  (⟨a.1, b.1, c.1⟩, c.2)
/-- the deed that is read of a text, whatever it is. -/
def rdD (t : Tx) : D :=
  let k := (num t).1
  let t1 := (num t).2
  let p := num t1
  let n := num p.2
  if k = 1 ∨ k = 2 then ⟨k, (idnE t1).1, (evtE (idnE t1).2).1, [], 0, 0, b0⟩
  else if k = 3 ∨ k = 4 then ⟨k, (idnE t1).1, e0, [], 0, 0, b0⟩
  else if k = 5 ∨ k = 6 then ⟨k, (0, 0), e0, (lst clm n.2).1, p.1, n.1, b0⟩
  else if k = 7 then ⟨k, (0, 0), e0, [], p.1, n.1, b0⟩
  else if k = 8 then ⟨k, (0, 0), e0, [], p.1, n.1, (bkgE n.2).1⟩
  else ⟨k, (0, 0), e0, [], 0, 0, b0⟩

/-- the numbers of a text, of lists, of a rule, an event, a booking, a deed. -/
def bt (c : UInt8) : List Int := [(c.toNat : Int)]
def oneI (n : Int) : List Int := [n]
def wdI (d : Wd) : List Int := [d.1, d.2]
def clI (c : C) : List Int := [c.1, c.2.1, c.2.2]
def seqN {α : Type} (f : α → List Int) (l : List α) : List Int := (l.length : Int) :: l.flatMap f
def ruN (r : Rul.T) : List Int := [r.fr, r.ev, r.ct, r.un] ++ (seqN wdI r.ds ++ (seqN oneI r.ms ++ seqN oneI r.ys))
def evN (e : Ev.E) : List Int := seqN bt e.uid ++ (seqN bt e.text ++ ([e.st, e.lg] ++ (seqN oneI e.rooms ++ (ruN e.r ++ seqN oneI e.ex))))
def idN (i : Nm) : List Int := [i.1, i.2]
def bkN (b : B) : List Int := idN b.id ++ ([b.st] ++ evN b.e)
def dN (d : D) : List Int :=
  [d.kd] ++ (if d.kd = 1 ∨ d.kd = 2 then idN d.id ++ evN d.e
  else if d.kd = 3 ∨ d.kd = 4 then idN d.id
  else if d.kd = 5 ∨ d.kd = 6 then [d.pe, d.n] ++ seqN clI d.cl
  else if d.kd = 7 then [d.pe, d.n]
  else if d.kd = 8 then [d.pe, d.n] ++ bkN d.b
  else [])
theorem one_flat (l : List Int) : l.flatMap oneI = l := by
  induction l with
  | nil => rfl
  | cons x l ih => rw [List.flatMap_cons, ih]; rfl
/-- numbers that an int holds. -/
def Fit (ns : List Int) : Prop := ∀ n ∈ ns, in64 n
theorem fit_app {a b : List Int} : Fit (a ++ b) ↔ Fit a ∧ Fit b := by
  unfold Fit; simp only [List.mem_append]
  exact ⟨fun h => ⟨fun n hn => h n (.inl hn), fun n hn => h n (.inr hn)⟩, fun h n hn => hn.elim (h.1 n) (h.2 n)⟩
theorem fit_cons {a : Int} {b : List Int} : Fit (a :: b) ↔ in64 a ∧ Fit b := by
  unfold Fit; simp only [List.mem_cons, forall_eq_or_imp]
theorem fit_nil : Fit [] := fun _ h => by simp at h
theorem fit_flat {α : Type} {f : α → List Int} {l : List α} (h : Fit (l.flatMap f)) : ∀ x ∈ l, Fit (f x) := fun x hx n hn => h n (List.mem_flatMap.2 ⟨x, hx, hn⟩)
theorem seq_jn {α : Type} (el : Tx → α × Tx) (f : α → List Int) (hf : ∀ x, f x ≠ []) (l : List α) (ns : List Int) (hl : Fit (seqN f l)) (he : ∀ x, Fit (f x) → ∀ ns, el (jn (f x ++ ns)) = (x, jn ns)) :
    lst el (jn (seqN f l ++ ns)) = (l, jn ns) := by
  unfold seqN at hl ⊢
  rw [List.cons_append]
  have h := fit_cons.1 hl
  exact lst_jn el f hf l ns h.1 fun x hx => he x (fit_flat h.2 x hx)
theorem ltr_jn (c : UInt8) (_h : Fit (bt c)) (ns : List Int) : ltr (jn (bt c ++ ns)) = (c, jn ns) := by
  have h1 := c.toNat_lt
  unfold ltr bt
  rw [List.singleton_append, num_jn _ _ (by unfold in64; omega)]
  have : (((c.toNat : Int) % 256).toNat) = c.toNat := by omega
  rw [this]; simp
theorem one_jn (n : Int) (h : Fit (oneI n)) (ns : List Int) : num (jn (oneI n ++ ns)) = (n, jn ns) := num_jn n ns (h n (by simp [oneI]))
theorem wdy_jn (d : Wd) (h : Fit (wdI d)) (ns : List Int) : wdy (jn (wdI d ++ ns)) = (d, jn ns) := by
  unfold wdI at h ⊢
  have h1 := fit_cons.1 h
  have h2 := fit_cons.1 h1.2
  simp only [List.cons_append, List.nil_append]
  unfold wdy
  rw [num_jn _ _ h1.1, num_jn _ _ h2.1]
theorem idn_jn (d : Nm) (h : Fit (idN d)) (ns : List Int) : idnE (jn (idN d ++ ns)) = (d, jn ns) := by
  unfold idN at h ⊢
  have h1 := fit_cons.1 h
  have h2 := fit_cons.1 h1.2
  simp only [List.cons_append, List.nil_append]
  unfold idnE
  rw [num_jn _ _ h1.1, num_jn _ _ h2.1]
theorem clm_jn (c : C) (h : Fit (clI c)) (ns : List Int) : clm (jn (clI c ++ ns)) = (c, jn ns) := by
  unfold clI at h ⊢
  have h1 := fit_cons.1 h
  have h2 := fit_cons.1 h1.2
  have h3 := fit_cons.1 h2.2
  simp only [List.cons_append, List.nil_append]
  unfold clm
  rw [num_jn _ _ h1.1, num_jn _ _ h2.1, num_jn _ _ h3.1]
theorem rul_jn (r : Rul.T) (h : Fit (ruN r)) (ns : List Int) : rulE (jn (ruN r ++ ns)) = (r, jn ns) := by
  unfold ruN at h ⊢
  obtain ⟨h1, h⟩ := fit_app.1 h
  obtain ⟨h5, h⟩ := fit_app.1 h
  obtain ⟨h6, h7⟩ := fit_app.1 h
  obtain ⟨h1, h2⟩ := fit_cons.1 h1
  obtain ⟨h2, h3⟩ := fit_cons.1 h2
  obtain ⟨h3, h4⟩ := fit_cons.1 h3
  obtain ⟨h4, _⟩ := fit_cons.1 h4
  simp only [List.append_assoc, List.cons_append, List.nil_append]
  unfold rulE
  simp only [num_jn _ _ h1, num_jn _ _ h2, num_jn _ _ h3, num_jn _ _ h4, seq_jn wdy wdI (fun _ => by simp [wdI]) _ _ h5 wdy_jn, seq_jn num oneI (fun _ => by simp [oneI]) _ _ h6 one_jn, seq_jn num oneI (fun _ => by simp [oneI]) _ _ h7 one_jn]
theorem evt_jn (e : Ev.E) (h : Fit (evN e)) (ns : List Int) : evtE (jn (evN e ++ ns)) = (e, jn ns) := by
  unfold evN at h ⊢
  obtain ⟨h1, h⟩ := fit_app.1 h
  obtain ⟨h2, h⟩ := fit_app.1 h
  obtain ⟨h3, h⟩ := fit_app.1 h
  obtain ⟨h5, h⟩ := fit_app.1 h
  obtain ⟨h6, h7⟩ := fit_app.1 h
  obtain ⟨h3, h4⟩ := fit_cons.1 h3
  obtain ⟨h4, _⟩ := fit_cons.1 h4
  simp only [List.append_assoc, List.cons_append, List.nil_append]
  unfold evtE
  simp only [num_jn _ _ h3, num_jn _ _ h4, rul_jn _ h6, seq_jn ltr bt (fun _ => by simp [bt]) _ _ h1 ltr_jn, seq_jn ltr bt (fun _ => by simp [bt]) _ _ h2 ltr_jn, seq_jn num oneI (fun _ => by simp [oneI]) _ _ h5 one_jn, seq_jn num oneI (fun _ => by simp [oneI]) _ _ h7 one_jn]
theorem bkg_jn (b : B) (h : Fit (bkN b)) (ns : List Int) : bkgE (jn (bkN b ++ ns)) = (b, jn ns) := by
  unfold bkN at h ⊢
  obtain ⟨h1, h⟩ := fit_app.1 h
  obtain ⟨h2, h3⟩ := fit_app.1 h
  obtain ⟨h2, _⟩ := fit_cons.1 h2
  rw [List.append_assoc, List.append_assoc]
  unfold bkgE
  simp only [idn_jn _ h1, List.cons_append, List.nil_append, num_jn _ _ h2, evt_jn _ h3]
theorem rd_jn {d : D} (hd : isD d = true) (h : Fit (dN d)) : rdD (jn (dN d)) = d := by
  have e := isD_bare hd
  have a := isD_ask hd
  unfold dN at h ⊢
  obtain ⟨h1, h⟩ := fit_app.1 h
  obtain ⟨h1, _⟩ := fit_cons.1 h1
  unfold bare at e
  unfold rdD
  simp only [List.cons_append, List.nil_append, num_jn _ _ h1]
  refine five (k := d.kd) (fun q => ?_) (fun n1 q => ?_) (fun n1 n3 q => ?_) (fun n1 n3 n5 q => ?_) (fun n1 n3 n5 n7 => ?_)
  · rw [if_pos q] at h e ⊢
    obtain ⟨h2, h3⟩ := fit_app.1 h
    have g3 := evt_jn d.e h3 []
    rw [List.append_nil] at g3
    rw [if_pos q, idn_jn _ h2]
    simp only [g3]
    exact e.symm
  · rw [if_neg n1, if_pos q] at h e ⊢
    have g2 := idn_jn d.id h []
    rw [List.append_nil] at g2
    rw [if_neg n1, if_pos q, g2]
    exact e.symm
  · rw [if_neg n1, if_neg n3, if_pos q] at h e ⊢
    obtain ⟨h2, h3⟩ := fit_app.1 h
    obtain ⟨h2, h4⟩ := fit_cons.1 h2
    obtain ⟨h4, _⟩ := fit_cons.1 h4
    have g3 := seq_jn clm clI (fun _ => by simp [clI]) d.cl [] h3 clm_jn
    rw [List.append_nil] at g3
    rw [if_neg n1, if_neg n3, if_pos q]
    simp only [num_jn _ _ h2, num_jn _ _ h4, g3]
    exact e.symm
  · rw [if_neg n1, if_neg n3, if_neg n5, if_pos q] at h e ⊢
    obtain ⟨h2, h4⟩ := fit_cons.1 h
    obtain ⟨h4, _⟩ := fit_cons.1 h4
    rw [if_neg n1, if_neg n3, if_neg n5, if_pos q]
    simp only [num_jn _ _ h2, num_jn _ _ h4]
    exact e.symm
  · have k8 := (ask8 a n1 n3 n5 n7).1
    rw [if_neg n1, if_neg n3, if_neg n5, if_neg n7] at e
    rw [if_neg n1, if_neg n3, if_neg n5, if_neg n7, if_pos k8] at h ⊢
    obtain ⟨h2, h3⟩ := fit_app.1 h
    obtain ⟨h2, h4⟩ := fit_cons.1 h2
    obtain ⟨h4, _⟩ := fit_cons.1 h4
    have g3 := bkg_jn d.b h3 []
    rw [List.append_nil] at g3
    rw [if_neg n1, if_neg n3, if_neg n5, if_neg n7, if_pos k8]
    simp only [num_jn _ _ h2, num_jn _ _ h4, g3]
    exact e.symm
end Go.Proofs.YtlmdceeeahnkcaaGreatDoor.Sc
namespace Go.Proofs.YtlmdceeeahnkcaaGreatDoor.Sc
open Go.Proofs.YtlmdceeeahnkcaaGreatDoor Rul Rt Cl De

/-- numbers of at most eight digits. -/
def Few8 (ns : List Int) : Prop := ∀ n ∈ ns, -100000000 < n ∧ n < 100000000
theorem few_app {a b : List Int} : Few8 (a ++ b) ↔ Few8 a ∧ Few8 b := by
  unfold Few8; simp only [List.mem_append]
  exact ⟨fun h => ⟨fun n hn => h n (.inl hn), fun n hn => h n (.inr hn)⟩, fun h n hn => hn.elim (h.1 n) (h.2 n)⟩
theorem few_cons {a : Int} {b : List Int} : Few8 (a :: b) ↔ (-100000000 < a ∧ a < 100000000) ∧ Few8 b := by
  unfold Few8; simp only [List.mem_cons, forall_eq_or_imp]
theorem few_nil : Few8 [] := fun _ h => by simp at h
theorem few_fit {a : List Int} (h : Few8 a) : Fit a := fun n hn => by have := h n hn; unfold in64; omega
theorem few_seq {α : Type} {f : α → List Int} {l : List α} (hl : l.length ≤ 1000) (h : ∀ x ∈ l, Few8 (f x)) : Few8 (seqN f l) := by
  unfold seqN
  refine few_cons.2 ⟨by omega, fun n hn => ?_⟩
  obtain ⟨x, hx, hn⟩ := List.mem_flatMap.1 hn
  exact h x hx n hn
theorem itoa_len9 (n : Int) (h : -100000000 < n ∧ n < 100000000) : (Lib.itoa n).length ≤ 9 := by
  by_cases g : n < 0
  · rw [itoa_ng n g, List.length_cons]
    have := dec_len 7 n.natAbs (by omega)
    omega
  · rw [itoa_pos n (by omega)]
    have := dec_len 7 n.toNat (by omega)
    omega
theorem jn_len : ∀ ns : List Int, Few8 ns → (jn ns).length ≤ ns.length * 10
  | [], _ => Nat.zero_le _
  | [n], h => by have := itoa_len9 n (h n (by simp)); simp only [jn_one, List.length_cons, List.length_nil]; omega
  | n :: m :: l, h => by
    have h1 := itoa_len9 n (h n (by simp))
    have h2 := jn_len (m :: l) (few_cons.1 h).2
    rw [jn_two, List.length_append, List.length_cons]
    simp only [List.length_cons] at h2 ⊢; omega
theorem seq_len {α : Type} (f : α → List Int) (k : Nat) (hf : ∀ x, (f x).length = k) (l : List α) : (seqN f l).length = l.length * k + 1 := by
  unfold seqN
  rw [List.length_cons]
  congr 1
  induction l with
  | nil => simp
  | cons x l ih => rw [List.flatMap_cons, List.length_append, ih, hf, List.length_cons, Nat.succ_mul]; omega

theorem asc_mem {α : Type} {p : α → Bool} {lt : α → α → Bool} {d : α} {l : List α} (h : ascB p lt d l = true) : ∀ x ∈ l, p x = true := fun x hx => by
  obtain ⟨i, hi, e⟩ := List.mem_iff_getElem.1 hx
  have := (ascB_iff p lt d l).1 h i hi
  unfold stepB at this
  rw [Bool.and_eq_true] at this
  have e2 : l.getD i d = x := by rw [← e]; simp [List.getD, hi]
  rw [e2] at this; exact this.1
theorem list_mem {α : Type} {p : α → Bool} {lt : α → α → Bool} {d : α} {l : List α} (h : listB p lt d l = true) : l.length ≤ 12 ∧ ∀ x ∈ l, p x = true := by
  unfold listB at h
  rw [Bool.and_eq_true, decide_eq_true_eq] at h
  exact ⟨h.1, asc_mem h.2⟩
theorem ru_small {r : Rul.T} (h : isB r = true) : Few8 (ruN r) ∧ (ruN r).length ≤ 60 := by
  unfold isB at h
  rw [Bool.or_eq_true] at h
  rcases h with h | h
  · rw [(sameB_iff r once).1 h]; unfold Few8; decide
  · unfold recB at h
    simp only [Bool.and_eq_true] at h
    obtain ⟨h1, h2, _⟩ := h
    unfold rangeB at h1
    unfold wellB at h2
    simp only [Bool.and_eq_true, btw_iff] at h1 h2
    obtain ⟨q1, q2, q3, q4, _⟩ := h1
    obtain ⟨w1, w2, w3⟩ := h2
    obtain ⟨l1, m1⟩ := list_mem w1
    obtain ⟨l2, m2⟩ := list_mem w2
    obtain ⟨l3, m3⟩ := list_mem w3
    refine ⟨?_, ?_⟩
    · unfold ruN
      refine few_app.2 ⟨?_, few_app.2 ⟨few_seq (by omega) fun x hx => ?_, few_app.2 ⟨few_seq (by omega) fun x hx => ?_, few_seq (by omega) fun x hx => ?_⟩⟩⟩
      · exact few_cons.2 ⟨by omega, few_cons.2 ⟨by omega, few_cons.2 ⟨by omega, few_cons.2 ⟨by omega, few_nil⟩⟩⟩⟩
      · have := m1 x hx
        unfold wdOk at this
        simp only [Bool.and_eq_true, btw_iff] at this
        exact few_cons.2 ⟨by omega, few_cons.2 ⟨by omega, few_nil⟩⟩
      · have := m2 x hx
        unfold mdOk at this
        simp only [Bool.and_eq_true, btw_iff] at this
        exact few_cons.2 ⟨by omega, few_nil⟩
      · have := m3 x hx
        unfold moOk at this
        simp only [btw_iff] at this
        exact few_cons.2 ⟨by omega, few_nil⟩
    · unfold ruN
      rw [List.length_append, List.length_append, List.length_append, seq_len wdI 2 (fun _ => rfl), seq_len oneI 1 (fun _ => rfl), seq_len oneI 1 (fun _ => rfl)]
      simp only [List.length_cons, List.length_nil]
      omega
theorem bt_few (c : UInt8) : Few8 (bt c) := by have := c.toNat_lt; exact few_cons.2 ⟨by omega, few_nil⟩
theorem ev_small {e : Ev.E} (h : Ev.isE e = true) : Few8 (evN e) ∧ (evN e).length ≤ 160 := by
  have q := (Ev.isE_iff e).1 h
  have u := Ev.uidB_len q.uid
  have t := Ev.textB_len q.text
  have st := q.st
  have lg := q.lg
  unfold Ev.minB at st
  unfold Ev.lgB at lg
  rw [decide_eq_true_eq] at st
  rw [btw_iff] at lg
  obtain ⟨r1, r2⟩ := ru_small q.r
  have ex := q.ex
  unfold Ev.exB at ex
  obtain ⟨x1, x2⟩ := list_mem ex
  have rm := q.rooms
  unfold Ev.roomsB at rm
  rw [Bool.and_eq_true, decide_eq_true_eq] at rm
  have o2 := asc_mem rm.2
  refine ⟨?_, ?_⟩
  · unfold evN
    refine few_app.2 ⟨few_seq (by omega) fun x _ => bt_few x, few_app.2 ⟨few_seq (by omega) fun x _ => bt_few x, few_app.2 ⟨few_cons.2 ⟨by omega, few_cons.2 ⟨by omega, few_nil⟩⟩, few_app.2 ⟨few_seq (by omega) fun x hx => ?_, few_app.2 ⟨r1, few_seq (by omega) fun x hx => ?_⟩⟩⟩⟩⟩
    · have := o2 x hx
      unfold Ev.roomB at this
      rw [btw_iff] at this
      exact few_cons.2 ⟨by omega, few_nil⟩
    · have := x2 x hx
      unfold Ev.minB at this
      rw [decide_eq_true_eq] at this
      exact few_cons.2 ⟨by omega, few_nil⟩
  · unfold evN
    simp only [List.length_append, seq_len bt 1 (fun _ => rfl), seq_len oneI 1 (fun _ => rfl), List.length_cons, List.length_nil]
    omega
theorem id_few {i : Nm} (h : idB i = true) : Few8 (idN i) := by
  unfold idB seqB peB at h
  simp only [Bool.and_eq_true, decide_eq_true_eq] at h
  exact few_cons.2 ⟨by omega, few_cons.2 ⟨by omega, few_nil⟩⟩
theorem bk_small {b : B} (h : bkB b = true) : Few8 (bkN b) ∧ (bkN b).length ≤ 163 := by
  unfold bkB stB at h
  simp only [Bool.and_eq_true, Bool.or_eq_true, decide_eq_true_eq] at h
  obtain ⟨h1, h2, h3⟩ := h
  obtain ⟨e1, e2⟩ := ev_small h2
  refine ⟨few_app.2 ⟨id_few h1, few_app.2 ⟨few_cons.2 ⟨by omega, few_nil⟩, e1⟩⟩, ?_⟩
  unfold bkN idN
  simp only [List.length_append, List.length_cons, List.length_nil]
  omega
theorem neat_few {l : List C} (h : l = neatC l) : ∀ c ∈ l, Few8 (clI c) := fun c hc => by
  rw [h] at hc
  unfold neatC outC at hc
  obtain ⟨r, hr, hc⟩ := List.mem_flatMap.1 hc
  unfold tag at hc
  obtain ⟨s, hs, e⟩ := List.mem_map.1 hc
  have hr := List.mem_range.1 hr
  have hw := (wk_neat (neatF l r) (Spn.canon_neat _).1).1 s hs
  subst e
  exact few_cons.2 ⟨by simp only; omega, few_cons.2 ⟨by simp only; omega, few_cons.2 ⟨by simp only; omega, few_nil⟩⟩⟩
theorem dN_small {d : D} (h : isD d = true) : Few8 (dN d) ∧ (dN d).length ≤ 500 ∧ 0 < (dN d).length := by
  have a := isD_ask h
  unfold De.ask at a
  unfold dN
  refine five (k := d.kd) (fun q => ?_) (fun n1 q => ?_) (fun n1 n3 q => ?_) (fun n1 n3 n5 q => ?_) (fun n1 n3 n5 n7 => ?_)
  · rw [if_pos q, Bool.and_eq_true] at a
    obtain ⟨e1, e2⟩ := ev_small a.2
    rw [if_pos q]
    refine ⟨few_app.2 ⟨few_cons.2 ⟨by omega, few_nil⟩, few_app.2 ⟨id_few a.1, e1⟩⟩, ?_⟩
    unfold idN
    simp only [List.length_append, List.length_cons, List.length_nil]
    omega
  · rw [if_neg n1, if_pos q] at a ⊢
    refine ⟨few_app.2 ⟨few_cons.2 ⟨by omega, few_nil⟩, id_few a⟩, ?_⟩
    unfold idN
    simp only [List.length_append, List.length_cons, List.length_nil]
    omega
  · rw [if_neg n1, if_neg n3, if_pos q] at a ⊢
    unfold peB seqB at a
    simp only [Bool.and_eq_true, decide_eq_true_eq] at a
    obtain ⟨c1, c2, c3⟩ := neatB_ok a.1
    refine ⟨few_app.2 ⟨few_cons.2 ⟨by omega, few_nil⟩, few_app.2 ⟨few_cons.2 ⟨by omega, few_cons.2 ⟨by omega, few_nil⟩⟩, few_seq (by omega) (neat_few c1)⟩⟩, ?_⟩
    simp only [List.length_append, seq_len clI 3 (fun _ => rfl), List.length_cons, List.length_nil]
    omega
  · rw [if_neg n1, if_neg n3, if_neg n5, if_pos q] at a ⊢
    unfold peB seqB at a
    simp only [Bool.and_eq_true, decide_eq_true_eq] at a
    refine ⟨few_app.2 ⟨few_cons.2 ⟨by omega, few_nil⟩, few_cons.2 ⟨by omega, few_cons.2 ⟨by omega, few_nil⟩⟩⟩, ?_⟩
    simp only [List.length_append, List.length_cons, List.length_nil]
    omega
  · have k8 := ask8 a n1 n3 n5 n7
    unfold peB seqB at k8
    simp only [Bool.and_eq_true, decide_eq_true_eq] at k8
    obtain ⟨b1, b2⟩ := bk_small k8.2.2.2
    rw [if_neg n1, if_neg n3, if_neg n5, if_neg n7, if_pos k8.1]
    refine ⟨few_app.2 ⟨few_cons.2 ⟨by omega, few_nil⟩, few_app.2 ⟨few_cons.2 ⟨by omega, few_cons.2 ⟨by omega, few_nil⟩⟩, b1⟩⟩, ?_⟩
    simp only [List.length_append, List.length_cons, List.length_nil]
    omega

/-- one step of the sum, and the sum. -/
def stepU (s : Nat) (c : UInt8) : Nat := ((s ^^^ c.toNat) * 16777619) % 4294967296
def sumE (t : Tx) : Nat := t.foldl stepU 2166136261
theorem stepU_lt (s : Nat) (c : UInt8) : stepU s c < 4294967296 := Nat.mod_lt _ (by decide)
theorem fold_lt : ∀ (t : Tx) (s : Nat), s < 4294967296 → t.foldl stepU s < 4294967296
  | [], _, h => h
  | c :: t, s, _ => fold_lt t _ (stepU_lt s c)
theorem sumE_lt (t : Tx) : sumE t < 4294967296 := fold_lt t _ (by decide)
theorem mul_back {x y : Nat} (hx : x < 4294967296) (hy : y < 4294967296) (h : (x * 16777619) % 4294967296 = (y * 16777619) % 4294967296) : x = y := by
  have e : ∀ z : Nat, z < 4294967296 → ((z * 16777619 % 4294967296) * 899433627) % 4294967296 = z := fun z hz => by
    rw [Nat.mod_mul_mod, Nat.mul_assoc]
    have : 16777619 * 899433627 = 3513497 * 4294967296 + 1 := by decide
    rw [this, Nat.mul_add, Nat.mul_one, ← Nat.mul_assoc, Nat.mul_comm (z * 3513497), Nat.mul_add_mod, Nat.mod_eq_of_lt hz]
  rw [← e x hx, ← e y hy, h]
theorem xor_lt {s : Nat} (c : UInt8) (h : s < 4294967296) : s ^^^ c.toNat < 4294967296 :=
  Nat.xor_lt_two_pow (n := 32) h (Nat.lt_trans c.toNat_lt (by decide))
theorem xor_back {a b c : Nat} (h : a ^^^ c = b ^^^ c) : a = b := by
  have := congrArg (· ^^^ c) h
  simpa [Nat.xor_assoc] using this
theorem stepU_inj {s s' : Nat} (c : UInt8) (h : s < 4294967296) (h' : s' < 4294967296) (e : stepU s c = stepU s' c) : s = s' :=
  xor_back (mul_back (xor_lt c h) (xor_lt c h') e)
theorem stepU_ne {s : Nat} {c c' : UInt8} (h : s < 4294967296) (e : stepU s c = stepU s c') : c = c' := by
  have := mul_back (xor_lt c h) (xor_lt c' h) e
  rw [Nat.xor_comm s, Nat.xor_comm s] at this
  exact UInt8.toNat_inj.1 (xor_back this)
theorem fold_inj : ∀ (t : Tx) {s s' : Nat}, s < 4294967296 → s' < 4294967296 → t.foldl stepU s = t.foldl stepU s' → s = s'
  | [], _, _, _, _, e => e
  | c :: t, _, _, h, h', e => stepU_inj c h h' (fold_inj t (stepU_lt _ _) (stepU_lt _ _) e)
theorem sum_one (p q : Tx) (c c' : UInt8) (e : sumE (p ++ c :: q) = sumE (p ++ c' :: q)) : c = c' := by
  unfold sumE at e
  rw [List.foldl_append, List.foldl_append, List.foldl_cons, List.foldl_cons] at e
  exact stepU_ne (fold_lt p _ (by decide)) (fold_inj q (stepU_lt _ _) (stepU_lt _ _) e)

/-- a text with its length and its sum; the text of such a line. -/
def sld (t : Tx) : Tx := Lib.itoa (t.length : Int) ++ 32 :: (Lib.itoa (sumE t : Int) ++ 32 :: t)
def uns (s : Tx) : Tx := cr (cr s)
theorem uns_sld (t : Tx) : uns (sld t) = t := by
  unfold uns sld
  rw [cr_hit _ _ (free32 _), cr_hit _ _ (free32 _)]
theorem uns_le (s : Tx) : (uns s).length ≤ s.length := Nat.le_trans (cr_le _) (cr_le _)
/-- the line of a deed; the deed of a line. -/
def lineE (d : D) : Tx := sld (jn (dN d))
def readE (s : Tx) : Option D := if sld (uns s) = s ∧ isD (rdD (uns s)) = true ∧ jn (dN (rdD (uns s))) = uns s then some (rdD (uns s)) else none
theorem read_line {d : D} (h : isD d = true) : readE (lineE d) = some d := by
  unfold readE lineE
  rw [uns_sld, rd_jn h (few_fit (dN_small h).1), if_pos ⟨rfl, h, rfl⟩]
theorem read_some {s : Tx} {d : D} (h : readE s = some d) : isD d = true ∧ lineE d = s := by
  unfold readE at h
  split at h
  · rename_i g
    cases h
    exact ⟨g.2.1, by unfold lineE; rw [g.2.2, g.1]⟩
  · cases h
theorem line_inj {a b : D} (ha : isD a = true) (hb : isD b = true) (h : lineE a = lineE b) : a = b := by
  have := read_line ha
  rw [h, read_line hb] at this
  exact (Option.some.inj this).symm
theorem dec_len10 (u : Nat) (h : u < 4294967296) : (Lib.itoa (u : Int)).length ≤ 10 := by
  rw [itoa_nn]; exact dec_len 9 u (by omega)
theorem line_len {d : D} (h : isD d = true) : 4 ≤ (lineE d).length ∧ (lineE d).length ≤ 8000 := by
  obtain ⟨h1, h2, h3⟩ := dN_small h
  have h4 := jn_len _ h1
  have h5 := jn_len_ge (dN d)
  have h6 := itoa_len9 ((jn (dN d)).length : Int) (by omega)
  have h7 := dec_len10 (sumE (jn (dN d))) (sumE_lt _)
  have h8 := List.length_pos_iff.2 (itoa_ne ((jn (dN d)).length : Int))
  have h9 := List.length_pos_iff.2 (itoa_ne (sumE (jn (dN d)) : Int))
  unfold lineE sld
  simp only [List.length_append, List.length_cons]
  omega
/-- no line's end is in it. -/
theorem numc_ends {c : UInt8} (h : numc c = true ∨ c = 32) : c ≠ 10 ∧ c ≠ 13 := by
  rcases h with h | h
  · constructor <;> (intro e; subst e; revert h; decide)
  · subst h; decide
theorem jn_mem : ∀ (ns : List Int) (c : UInt8), c ∈ jn ns → numc c = true ∨ c = 32
  | [], c, h => by simp [jn_nil] at h
  | [n], c, h => .inl (List.all_eq_true.1 (itoa_chars n) c h)
  | n :: m :: l, c, h => by
    rw [jn_two] at h
    rcases List.mem_append.1 h with h | h
    · exact .inl (List.all_eq_true.1 (itoa_chars n) c h)
    · rcases List.mem_cons.1 h with h | h
      · exact .inr h
      · exact jn_mem (m :: l) c h
theorem line_ends (d : D) : ∀ c ∈ lineE d, c ≠ 10 ∧ c ≠ 13 := fun c h => by
  unfold lineE sld at h
  refine numc_ends ?_
  rcases List.mem_append.1 h with h | h
  · exact .inl (List.all_eq_true.1 (itoa_chars _) c h)
  · rcases List.mem_cons.1 h with h | h
    · exact .inr h
    · rcases List.mem_append.1 h with h | h
      · exact .inl (List.all_eq_true.1 (itoa_chars _) c h)
      · rcases List.mem_cons.1 h with h | h
        · exact .inr h
        · exact jn_mem _ c h
end Go.Proofs.YtlmdceeeahnkcaaGreatDoor.Sc
namespace Go.Proofs.YtlmdceeeahnkcaaGreatDoor.Sc
open Go.Proofs.YtlmdceeeahnkcaaGreatDoor Rul Rt Cl De

theorem fst32 {a b x y : Tx} (ha : (32 : UInt8) ∉ a) (hb : (32 : UInt8) ∉ b) (h : a ++ 32 :: x = b ++ 32 :: y) : a = b ∧ x = y := by
  have h1 := congrArg cw h
  have h2 := congrArg cr h
  rw [cw_hit _ _ ha, cw_hit _ _ hb] at h1
  rw [cr_hit _ _ ha, cr_hit _ _ hb] at h2
  exact ⟨h1, h2⟩
theorem dec_mono : ∀ (k u v : Nat), v ≤ k → u ≤ v → (Lib.decDigits u).length ≤ (Lib.decDigits v).length
  | 0, u, v, hk, h => by obtain rfl : u = v := by omega
                         exact Nat.le_refl _
  | k + 1, u, v, hk, h => by
    by_cases hu : u < 10
    · rw [dec_small u hu]
      exact List.length_pos_iff.2 (dec_ne v)
    · rw [dec_big u hu, dec_big v (by omega), List.length_append, List.length_append]
      have := dec_mono k (u / 10) (v / 10) (by omega) (by omega)
      simp only [List.length_cons, List.length_nil]; omega
theorem itoa_mono {u v : Nat} (h : u ≤ v) : (Lib.itoa (u : Int)).length ≤ (Lib.itoa (v : Int)).length := by
  rw [itoa_nn, itoa_nn]; exact dec_mono v u v (Nat.le_refl _) h
theorem itoa_pos_len (n : Int) : 0 < (Lib.itoa n).length := List.length_pos_iff.2 (itoa_ne n)
theorem free_l {p q : Tx} {n : Int} (h : Lib.itoa n = p ++ q) : (32 : UInt8) ∉ p ∧ (32 : UInt8) ∉ q := by
  have := free32 n
  rw [h, List.mem_append, not_or] at this
  exact this
theorem free_m {p q : Tx} {c : UInt8} (hp : (32 : UInt8) ∉ p) (hq : (32 : UInt8) ∉ q) (hc : c ≠ 32) : (32 : UInt8) ∉ p ++ c :: q := by
  simp only [List.mem_append, List.mem_cons, not_or]
  exact ⟨hp, Ne.symm hc, hq⟩
theorem mid_app (p q r : Tx) (c : UInt8) : p ++ c :: (q ++ r) = (p ++ c :: q) ++ r := by simp
theorem blank_split {A R p q : Tx} (h : A ++ 32 :: R = p ++ q) : (∃ a, A = p ++ a ∧ q = a ++ 32 :: R) ∨ (∃ b, p = A ++ 32 :: b ∧ R = b ++ q) := by
  rcases List.append_eq_append_iff.1 h with ⟨a, hp, hq⟩ | ⟨a, hA, hq⟩
  · cases a with
    | nil => exact .inl ⟨[], by simpa using hp.symm, by simpa using hq.symm⟩
    | cons x b =>
      rw [List.cons_append, List.cons.injEq] at hq
      obtain ⟨rfl, hq⟩ := hq
      exact .inr ⟨b, hp, hq⟩
  · exact .inl ⟨a, hA, hq⟩
theorem len_of_sld {t t' : Tx} (h : Lib.itoa (t'.length : Int) = Lib.itoa (t.length : Int)) : t'.length = t.length := by
  have := itoa_inj _ _ h; omega

theorem ins_front {t t' p a : Tx} {c : UInt8} (hA : Lib.itoa (t.length : Int) = p ++ a) (h : sld t' = p ++ c :: (a ++ 32 :: (Lib.itoa (sumE t : Int) ++ 32 :: t))) : False := by
  have hf := free_l hA
  have hl := congrArg List.length hA
  rw [List.length_append] at hl
  by_cases hc : c = 32
  · subst hc
    unfold sld at h
    obtain ⟨e1, e2⟩ := fst32 (free32 _) hf.1 h
    obtain ⟨e3, e4⟩ := fst32 (free32 _) hf.2 e2
    have h1 := congrArg List.length e1
    have h3 := congrArg List.length e3
    have h4 := congrArg List.length e4
    have hp := itoa_pos_len (sumE t' : Int)
    rw [List.length_append, List.length_cons] at h4
    have hm := itoa_mono (u := t.length) (v := t'.length) (by omega)
    omega
  · rw [mid_app] at h
    unfold sld at h
    obtain ⟨e1, e2⟩ := fst32 (free32 _) (free_m hf.1 hf.2 hc) h
    obtain ⟨_, e4⟩ := fst32 (free32 _) (free32 _) e2
    subst e4
    have h1 := congrArg List.length e1
    rw [List.length_append, List.length_cons] at h1
    omega
theorem ins_mid {t t' p b : Tx} {c : UInt8} (hB : Lib.itoa (sumE t : Int) = p ++ b) (h : sld t' = Lib.itoa (t.length : Int) ++ 32 :: (p ++ c :: (b ++ 32 :: t))) : False := by
  have hf := free_l hB
  unfold sld at h
  obtain ⟨e1, e2⟩ := fst32 (free32 _) (free32 _) h
  have hl := len_of_sld e1
  by_cases hc : c = 32
  · subst hc
    obtain ⟨_, e4⟩ := fst32 (free32 _) hf.1 e2
    have h4 := congrArg List.length e4
    rw [List.length_append, List.length_cons] at h4
    omega
  · rw [mid_app] at e2
    obtain ⟨e3, e4⟩ := fst32 (free32 _) (free_m hf.1 hf.2 hc) e2
    subst e4
    have h3 := congrArg List.length e3
    have h5 := congrArg List.length hB
    rw [List.length_append, List.length_cons] at h3
    rw [List.length_append] at h5
    omega
/-- one byte more. -/
theorem ins_no {t t' p q : Tx} {c : UInt8} (h : sld t = p ++ q) (h' : sld t' = p ++ c :: q) : False := by
  unfold sld at h
  rcases blank_split h with ⟨a, hA, rfl⟩ | ⟨b, rfl, hR⟩
  · exact ins_front hA h'
  · rw [List.append_assoc, List.cons_append] at h'
    rcases blank_split hR with ⟨a, hB, rfl⟩ | ⟨b2, rfl, ht⟩
    · exact ins_mid hB h'
    · rw [List.append_assoc, List.cons_append] at h'
      unfold sld at h'
      obtain ⟨e1, e2⟩ := fst32 (free32 _) (free32 _) h'
      obtain ⟨_, e4⟩ := fst32 (free32 _) (free32 _) e2
      have hl := len_of_sld e1
      have h4 := congrArg List.length e4
      have h5 := congrArg List.length ht
      rw [List.length_append, List.length_cons] at h4
      rw [List.length_append] at h5
      omega
/-- another byte. -/
theorem sub_no {t t' p q : Tx} {c c' : UInt8} (hc : c ≠ c') (h : sld t = p ++ c :: q) (h' : sld t' = p ++ c' :: q) : False := by
  unfold sld at h
  rcases blank_split h with ⟨a, hA, hq⟩ | ⟨b, rfl, hR⟩
  · cases a with
    | nil =>
      rw [List.append_nil] at hA
      rw [List.nil_append, List.cons.injEq] at hq
      obtain ⟨rfl, rfl⟩ := hq
      subst hA
      have h3 : sld t' = (Lib.itoa (t.length : Int) ++ c' :: Lib.itoa (sumE t : Int)) ++ 32 :: t := by rw [h', mid_app]
      unfold sld at h3
      obtain ⟨e1, e2⟩ := fst32 (free32 _) (free_m (free32 _) (free32 _) (Ne.symm hc)) h3
      have h1 := congrArg List.length e1
      have h2 := congrArg List.length e2
      rw [List.length_append, List.length_cons] at h1 h2
      have hm := itoa_mono (u := t'.length) (v := t.length) (by omega)
      omega
    | cons x a =>
      rw [List.cons_append, List.cons.injEq] at hq
      obtain ⟨rfl, rfl⟩ := hq
      have hf := free_l hA
      have hf2 : (32 : UInt8) ∉ a := fun g => hf.2 (List.mem_cons_of_mem _ g)
      have hl := congrArg List.length hA
      rw [List.length_append, List.length_cons] at hl
      by_cases hc2 : c' = 32
      · subst hc2
        unfold sld at h'
        obtain ⟨e1, e2⟩ := fst32 (free32 _) hf.1 h'
        obtain ⟨_, e4⟩ := fst32 (free32 _) hf2 e2
        have h1 := congrArg List.length e1
        have h4 := congrArg List.length e4
        rw [List.length_append, List.length_cons] at h4
        have hm := itoa_mono (u := t.length) (v := t'.length) (by omega)
        omega
      · rw [mid_app] at h'
        unfold sld at h'
        obtain ⟨e1, e2⟩ := fst32 (free32 _) (free_m hf.1 hf2 hc2) h'
        obtain ⟨_, e4⟩ := fst32 (free32 _) (free32 _) e2
        subst e4
        rw [hA] at e1
        have := List.append_cancel_left e1
        rw [List.cons.injEq] at this
        exact hc this.1
  · rw [List.append_assoc, List.cons_append] at h'
    unfold sld at h'
    obtain ⟨e1, e2⟩ := fst32 (free32 _) (free32 _) h'
    have hl := len_of_sld e1
    rcases blank_split hR with ⟨a, hB, hq⟩ | ⟨b2, rfl, ht⟩
    · cases a with
      | nil =>
        rw [List.append_nil] at hB
        rw [List.nil_append, List.cons.injEq] at hq
        obtain ⟨rfl, rfl⟩ := hq
        subst hB
        have h2 := congrArg List.length e2
        rw [List.length_append, List.length_append, List.length_cons, List.length_cons] at h2
        have h3 := List.append_inj e2 (by omega)
        rw [List.cons.injEq] at h3
        exact hc h3.2.1
      | cons x a =>
        rw [List.cons_append, List.cons.injEq] at hq
        obtain ⟨rfl, rfl⟩ := hq
        have hf := free_l hB
        have hf2 : (32 : UInt8) ∉ a := fun g => hf.2 (List.mem_cons_of_mem _ g)
        by_cases hc2 : c' = 32
        · subst hc2
          obtain ⟨_, e4⟩ := fst32 (free32 _) hf.1 e2
          have h4 := congrArg List.length e4
          rw [List.length_append, List.length_cons] at h4
          omega
        · rw [mid_app] at e2
          obtain ⟨e3, e4⟩ := fst32 (free32 _) (free_m hf.1 hf2 hc2) e2
          subst e4
          rw [hB] at e3
          have := List.append_cancel_left e3
          rw [List.cons.injEq] at this
          exact hc this.1
    · rw [List.append_assoc, List.cons_append] at e2
      obtain ⟨e3, e4⟩ := fst32 (free32 _) (free32 _) e2
      have hs := itoa_inj _ _ e3
      rw [e4, ht] at hs
      exact hc (sum_one b2 q c c' (by omega))
/-- cut off. -/
theorem cut_no {t t' p q : Tx} (hq : q ≠ []) (h : sld t = p ++ q) (h' : sld t' = p) : False := by
  subst h'
  unfold sld at h
  rw [List.append_assoc, List.cons_append, List.append_assoc, List.cons_append] at h
  obtain ⟨e1, e2⟩ := fst32 (free32 _) (free32 _) h
  obtain ⟨_, e4⟩ := fst32 (free32 _) (free32 _) e2
  have hl := len_of_sld e1
  have h4 := congrArg List.length e4
  rw [List.length_append] at h4
  exact hq (List.eq_nil_of_length_eq_zero (by omega))
/-- a line that is spoilt at a place. -/
def spo (s : Tx) (k : Nat) (x : UInt8) (how : Nat) : Tx :=
  if how = 0 then s.set k (s.getD k 0 ^^^ x)
  else if how = 1 then s.take k ++ s.drop (k + 1)
  else if how = 2 then s.take k ++ x :: s.drop k
  else s.take k
theorem at_k {s : Tx} {k : Nat} (h : k < s.length) : s = s.take k ++ s[k] :: s.drop (k + 1) := by
  rw [List.getElem_cons_drop, List.take_append_drop]
theorem spo_no {d : D} {k : Nat} (x : UInt8) (how : Nat) (hk : k < (lineE d).length) (hn : spo (lineE d) k x how ≠ lineE d) : readE (spo (lineE d) k x how) = none := by
  cases h : readE (spo (lineE d) k x how) with
  | none => rfl
  | some d2 =>
    exfalso
    have e := (read_some h).2
    unfold lineE at e hn hk
    generalize jn (dN d2) = t2 at e
    generalize jn (dN d) = t at e hn hk
    have hs := at_k hk
    unfold spo at e hn
    by_cases h0 : how = 0
    · rw [if_pos h0] at e hn
      have e3 : (sld t).set k ((sld t).getD k 0 ^^^ x) = (sld t).take k ++ ((sld t).getD k 0 ^^^ x) :: (sld t).drop (k + 1) := by
        rw [List.set_eq_take_append_cons_drop, if_pos hk]
      rw [e3] at e
      have g : (sld t).getD k 0 = (sld t)[k] := by simp [List.getD, hk]
      rw [g] at e
      by_cases hc : (sld t)[k] = (sld t)[k] ^^^ x
      · refine hn ?_
        rw [e3, g, ← hc, ← hs]
      · exact sub_no hc hs e
    · rw [if_neg h0] at e
      by_cases h1 : how = 1
      · rw [if_pos h1] at e
        exact ins_no e hs
      · rw [if_neg h1] at e
        by_cases h2 : how = 2
        · rw [if_pos h2] at e
          exact ins_no (List.take_append_drop k (sld t)).symm e
        · rw [if_neg h2] at e
          refine cut_no (q := (sld t).drop k) ?_ (List.take_append_drop k (sld t)).symm e
          intro g
          have := congrArg List.length g
          rw [List.length_drop] at this
          simp at this; omega
end Go.Proofs.YtlmdceeeahnkcaaGreatDoor.Sc
namespace Go.Proofs.YtlmdceeeahnkcaaGreatDoor.Sc
open Go.Proofs.YtlmdceeeahnkcaaGreatDoor Rul Rt Cl De

structure EvS (n : Nat) (e : Ev.E) : Prop where
  u : e.uid.length ≤ n
  t : e.text.length ≤ n
  o : e.rooms.length ≤ n
  d : e.r.ds.length ≤ n
  m : e.r.ms.length ≤ n
  y : e.r.ys.length ≤ n
  x : e.ex.length ≤ n
theorem EvS.nil (n : Nat) : EvS n e0 := ⟨Nat.zero_le _, Nat.zero_le _, Nat.zero_le _, Nat.zero_le _, Nat.zero_le _, Nat.zero_le _, Nat.zero_le _⟩
theorem rul_small (n : Nat) (t : Tx) (h : t.length ≤ n) : (rulE t).1.ds.length ≤ n ∧ (rulE t).1.ms.length ≤ n ∧ (rulE t).1.ys.length ≤ n ∧ (rulE t).2.length ≤ n := by
  have a2 := num_le t
  generalize ha : num t = a at *
  have b2 := num_le a.2
  generalize hb : num a.2 = b at *
  have c2 := num_le b.2
  generalize hc : num b.2 = c at *
  have d2 := num_le c.2
  generalize hd : num c.2 = d at *
  have x1 := lst_len wdy d.2
  have x2 := lst_le eats_wdy d.2
  generalize hx : lst wdy d.2 = x at *
  have y1 := lst_len num x.2
  have y2 := lst_le eats_num x.2
  generalize hy : lst num x.2 = y at *
  have z1 := lst_len num y.2
  have z2 := lst_le eats_num y.2
  generalize hz : lst num y.2 = z at *
  have e : rulE t = (⟨a.1, b.1, c.1, d.1, x.1, y.1, z.1⟩, z.2) := by
    unfold rulE; simp only [ha, hb, hc, hd, hx, hy, hz]
  rw [e]
  exact ⟨by simp only; omega, by simp only; omega, by simp only; omega, by simp only; omega⟩
theorem evt_small (n : Nat) (t : Tx) (h : t.length ≤ n) : EvS n (evtE t).1 ∧ (evtE t).2.length ≤ n := by
  have a1 := lst_len ltr t
  have a2 := lst_le eats_ltr t
  generalize ha : lst ltr t = a at *
  have b1 := lst_len ltr a.2
  have b2 := lst_le eats_ltr a.2
  generalize hb : lst ltr a.2 = b at *
  have c2 := num_le b.2
  generalize hc : num b.2 = c at *
  have d2 := num_le c.2
  generalize hd : num c.2 = d at *
  have x1 := lst_len num d.2
  have x2 := lst_le eats_num d.2
  generalize hx : lst num d.2 = x at *
  obtain ⟨y1, y3, y4, y2⟩ := rul_small n x.2 (by omega)
  generalize hy : rulE x.2 = y at *
  have z1 := lst_len num y.2
  have z2 := lst_le eats_num y.2
  generalize hz : lst num y.2 = z at *
  have e : evtE t = (⟨a.1, b.1, c.1, d.1, x.1, y.1, z.1⟩, z.2) := by
    unfold evtE; simp only [ha, hb, hc, hd, hx, hy, hz]
  rw [e]
  exact ⟨⟨by simp only; omega, by simp only; omega, by simp only; omega, y1, y3, y4, by simp only; omega⟩, by simp only; omega⟩
theorem bkg_small (n : Nat) (t : Tx) (h : t.length ≤ n) : EvS n (bkgE t).1.e := by
  have h1 := num_le t
  have h2 := num_le (num t).2
  have h3 := num_le (idnE t).2
  have e : (idnE t).2 = (num (num t).2).2 := rfl
  rw [e] at h3
  exact (evt_small n (num (num (num t).2).2).2 (by omega)).1
/-- few of all that a deed has. -/
structure DS (n : Nat) (d : D) : Prop where
  e : EvS n d.e
  c : d.cl.length ≤ n
  b : EvS n d.b.e
theorem rd_small (n : Nat) (t : Tx) (h : t.length ≤ n) : DS n (rdD t) := by
  have h1 := num_le t
  have h2 := num_le (num t).2
  have h3 := num_le (num (num t).2).2
  have h4 := lst_len clm (num (num (num t).2).2).2
  have e1 : (idnE (num t).2).2 = (num (num (num t).2).2).2 := rfl
  unfold rdD
  simp only
  split
  · exact ⟨(evt_small n _ (by rw [e1]; omega)).1, Nat.zero_le _, EvS.nil _⟩
  · split
    · exact ⟨EvS.nil _, Nat.zero_le _, EvS.nil _⟩
    · split
      · exact ⟨EvS.nil _, by simp only; omega, EvS.nil _⟩
      · split
        · exact ⟨EvS.nil _, Nat.zero_le _, EvS.nil _⟩
        · split
          · exact ⟨EvS.nil _, Nat.zero_le _, bkg_small n _ (by omega)⟩
          · exact ⟨EvS.nil _, Nat.zero_le _, EvS.nil _⟩
end Go.Proofs.YtlmdceeeahnkcaaGreatDoor.Sc

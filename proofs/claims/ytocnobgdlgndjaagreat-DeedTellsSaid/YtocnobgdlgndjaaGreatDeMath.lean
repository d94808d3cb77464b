/- Plain facts of deeds: numbers, bookings, deeds: what may be one, when two are the same; the code's way and the document's. No program is named here. -/
import Derived.Test.YtocnobgdlgndjaaGreatBM1
import Derived.Test.YtocnobgdlgndjaaGreatBM2
namespace Go.Proofs.YtocnobgdlgndjaaGreat.De
open Go.Proofs.YtocnobgdlgndjaaGreat Rul Cl

/-- a number: its own, its site. -/
abbrev Nm := Int × Int
/-- a booking. -/
structure B where
  id : Nm
  st : Int
  e : Ev.E
/-- a deed. -/
structure D where
  kd : Int
  id : Nm
  e : Ev.E
  cl : List C
  pe : Int
  n : Int
  b : B
def seqB (x : Int) : Bool := decide (1 ≤ x) && decide (x ≤ 1000000)
def peB (x : Int) : Bool := decide (0 ≤ x) && decide (x < 4)
def idB (i : Nm) : Bool := seqB i.1 && peB i.2
def befB (a b : Nm) : Bool := decide (a.1 < b.1) || (decide (a.1 = b.1) && decide (a.2 < b.2))
def idE (a b : Nm) : Bool := decide (a.1 = b.1) && decide (a.2 = b.2)
def stB (x : Int) : Bool := decide (x = 2) || decide (x = 4)
def bkB (b : B) : Bool := idB b.id && (Ev.isE b.e && stB b.st)
def sameBk (a b : B) : Bool := idE a.id b.id && (decide (a.st = b.st) && Ev.sameE a.e b.e)
def sameD (a b : D) : Bool := decide (a.kd = b.kd) && (idE a.id b.id && (Ev.sameE a.e b.e && (decide (a.cl = b.cl) && (decide (a.pe = b.pe) && (decide (a.n = b.n) && sameBk a.b b.b)))))
def e0 : Ev.E := ⟨[], [], 0, 0, [], ⟨0, 0, 0, 0, [], [], []⟩, []⟩
def b0 : B := ⟨(0, 0), 0, e0⟩
def neatB (l : List C) : Bool := decide (0 < l.length) && (decide (l.length ≤ 160) && decide (l = neatC l))
/-- the deed that has of another's fields those that its kind uses. -/
def bare (d : D) : D :=
  if d.kd = 1 ∨ d.kd = 2 then ⟨d.kd, d.id, d.e, [], 0, 0, b0⟩
  else if d.kd = 3 ∨ d.kd = 4 then ⟨d.kd, d.id, e0, [], 0, 0, b0⟩
  else if d.kd = 5 ∨ d.kd = 6 then ⟨d.kd, (0, 0), e0, d.cl, d.pe, d.n, b0⟩
  else if d.kd = 7 then ⟨d.kd, (0, 0), e0, [], d.pe, d.n, b0⟩
  else ⟨d.kd, (0, 0), e0, [], d.pe, d.n, d.b⟩
/-- what its kind asks of the fields that it uses. -/
def ask (d : D) : Bool :=
  if d.kd = 1 ∨ d.kd = 2 then idB d.id && Ev.isE d.e
  else if d.kd = 3 ∨ d.kd = 4 then idB d.id
  else if d.kd = 5 ∨ d.kd = 6 then neatB d.cl && (peB d.pe && seqB d.n)
  else if d.kd = 7 then peB d.pe && seqB d.n
  else if d.kd = 8 then peB d.pe && (seqB d.n && (bkB d.b && decide (d.b.id.2 = d.pe)))
  else false
/-- the code's. -/
def isD (d : D) : Bool := ask d && sameD d (bare d)
/-- the document's. -/
def isR (d : D) : Bool :=
  let noID := idE d.id (0, 0)
  let noE := Ev.sameE d.e e0
  let noC := decide (d.cl.length = 0)
  let noP := decide (d.pe = 0) && decide (d.n = 0)
  let noB := sameBk d.b b0
  if d.kd = 1 ∨ d.kd = 2 then idB d.id && (Ev.isE d.e && (noC && (noP && noB)))
  else if d.kd = 3 ∨ d.kd = 4 then idB d.id && (noE && (noC && (noP && noB)))
  else if d.kd = 5 ∨ d.kd = 6 then noID && (noE && (neatB d.cl && (peB d.pe && (seqB d.n && noB))))
  else if d.kd = 7 then noID && (noE && (noC && (peB d.pe && (seqB d.n && noB))))
  else if d.kd = 8 then noID && (noE && (noC && (peB d.pe && (seqB d.n && (bkB d.b && decide (d.b.id.2 = d.pe))))))
  else false
theorem idE_iff (a b : Nm) : idE a b = true ↔ a = b := by
  unfold idE; simp only [Bool.and_eq_true, decide_eq_true_eq]; exact ⟨fun ⟨x, y⟩ => Prod.ext x y, fun h => by subst h; exact ⟨rfl, rfl⟩⟩
theorem idE_self (a : Nm) : idE a a = true := (idE_iff a a).2 rfl
theorem sameBk_iff (a b : B) : sameBk a b = true ↔ a = b := by
  obtain ⟨i, s, e⟩ := a; obtain ⟨j, t, f⟩ := b
  simp only [sameBk, Bool.and_eq_true, decide_eq_true_eq, idE_iff, Ev.sameE_iff, B.mk.injEq]
theorem sameBk_self (a : B) : sameBk a a = true := (sameBk_iff a a).2 rfl
theorem sameD_iff (a b : D) : sameD a b = true ↔ a = b := by
  obtain ⟨k, i, e, c, p, n, x⟩ := a; obtain ⟨k', i', e', c', p', n', x'⟩ := b
  simp only [sameD, Bool.and_eq_true, decide_eq_true_eq, idE_iff, Ev.sameE_iff, sameBk_iff, D.mk.injEq]
theorem sameD_self (a : D) : sameD a a = true := (sameD_iff a a).2 rfl
theorem sameD_no {a b : D} (h : a ≠ b) : sameD a b = false := by rw [Bool.eq_false_iff]; exact fun g => h ((sameD_iff a b).1 g)
theorem isD_isR (d : D) : isD d = isR d := by
  obtain ⟨k, i, e, c, p, n, b⟩ := d
  unfold isD ask bare isR
  dsimp only
  by_cases h1 : k = 1 ∨ k = 2
  · simp only [if_pos h1, sameD, idE_self, Ev.sameE_self, decide_true, Bool.true_and, List.length_eq_zero_iff, Bool.and_assoc]
  by_cases h2 : k = 3 ∨ k = 4
  · simp only [if_neg h1, if_pos h2, sameD, idE_self, decide_true, Bool.true_and, List.length_eq_zero_iff, Bool.and_assoc]
  by_cases h3 : k = 5 ∨ k = 6
  · simp only [if_neg h1, if_neg h2, if_pos h3, sameD, decide_true, Bool.true_and]
    cases neatB c <;> cases peB p <;> cases seqB n <;> cases idE i (0, 0) <;> cases Ev.sameE e e0 <;> rfl
  by_cases h4 : k = 7
  · simp only [if_neg h1, if_neg h2, if_neg h3, if_pos h4, sameD, decide_true, Bool.true_and, List.length_eq_zero_iff]
    cases peB p <;> cases seqB n <;> cases idE i (0, 0) <;> cases Ev.sameE e e0 <;> cases decide (c = []) <;> rfl
  by_cases h5 : k = 8
  · simp only [if_neg h1, if_neg h2, if_neg h3, if_neg h4, if_pos h5, sameD, sameBk_self, decide_true, Bool.true_and, List.length_eq_zero_iff, Bool.and_true]
    cases peB p <;> cases seqB n <;> cases idE i (0, 0) <;> cases Ev.sameE e e0 <;> cases decide (c = []) <;> cases bkB b <;> cases decide (b.id.2 = p) <;> rfl
  · simp only [if_neg h1, if_neg h2, if_neg h3, if_neg h4, if_neg h5, Bool.false_and]
theorem isD_bare {d : D} (h : isD d = true) : d = bare d := by
  unfold isD at h; rw [Bool.and_eq_true] at h; exact (sameD_iff _ _).1 h.2
theorem isD_ask {d : D} (h : isD d = true) : ask d = true := by
  unfold isD at h; rw [Bool.and_eq_true] at h; exact h.1
theorem same_noD {d x : D} (hd : isD d = true) (hx : isD x = false) : sameD d x = false := sameD_no fun g => by rw [g, hx] at hd; cases hd
theorem isD_no {d : D} (h : isD d = true → False) : isD d = false := by rw [Bool.eq_false_iff]; exact h
end Go.Proofs.YtocnobgdlgndjaaGreat.De

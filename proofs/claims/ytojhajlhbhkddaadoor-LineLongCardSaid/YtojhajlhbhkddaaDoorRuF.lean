/- Put together: RuD RuE RuF. -/
import Derived.Test.YtojhajlhbhkddaaDoorRuC

/- Walks of package rule: the library's Equal at lists, and the reference's own. -/
namespace Go.Proofs.YtojhajlhbhkddaaDoor
open Go.RowKit Rul Go.Sort

theorem take_ne {α : Type} {l k : List α} {i : Nat} (hi : i < l.length) (hk : i < k.length) (h : l[i] ≠ k[i]) : l ≠ k := by
  rintro rfl; exact h rfl
theorem same_all {α : Type} {l k : List α} (hl : l.length = k.length) (h : l.take l.length = k.take l.length) : l = k := by
  rw [List.take_length, hl, List.take_length] at h; exact h

end Go.Proofs.YtojhajlhbhkddaaDoor

/- Walks of package rule: what a rule consists of, its numbers, its lists. -/
namespace Go.Proofs.YtojhajlhbhkddaaDoor
open Go.RowKit Rul Go.Sort

/-- the lists of a rule in memory. -/
structure Lies (w : World) (D : Option Addr) (dn : Nat) (M : Option Addr) (mn : Nat) (Y : Option Addr) (yn : Nat) (ds : List Wd) (ms ys : List Int) : Prop where
  d : RowD w D ds
  dn : dn = ds.length
  dl : ds.length ≤ 1000
  m : RowI w M ms
  mn : mn = ms.length
  ml : ms.length ≤ 1000
  y : RowI w Y ys
  yn : yn = ys.length
  yl : ys.length ≤ 1000
theorem Lies.keep {w w' : World} {D M Y : Option Addr} {dn mn yn : Nat} {ds : List Wd} {ms ys : List Int} (h : Lies w D dn M mn Y yn ds ms ys) (hb : Below w.heap.size w w') : Lies w' D dn M mn Y yn ds ms ys :=
  ⟨h.d.keep hb, h.dn, h.dl, h.m.keep hb, h.mn, h.ml, h.y.keep hb, h.yn, h.yl⟩

def rngB (fr ev ct un : Int) : Bool := btw 1 fr 4 && (btw 1 ev 100 && (btw 0 ct 40 && (btw (-1) un 52595999 && ((ct == 0) || (un == -1)))))
theorem rangeB_is (fr ev ct un : Int) (ds : List Wd) (ms ys : List Int) : rangeB ⟨fr, ev, ct, un, ds, ms, ys⟩ = rngB fr ev ct un := rfl
def welB (ds : List Wd) (ms ys : List Int) : Bool := listB wdOk wdLt (0, 0) ds && (listB mdOk inLt 0 ms && listB moOk inLt 0 ys)
theorem wellB_is (fr ev ct un : Int) (ds : List Wd) (ms ys : List Int) : wellB ⟨fr, ev, ct, un, ds, ms, ys⟩ = welB ds ms ys := rfl
def sutB (fr : Int) (ds : List Wd) (ms ys : List Int) : Bool :=
  if fr = 1 then !ds.any posB
  else if fr = 2 then !ds.any posB && decide (ms.length = 0)
  else if fr = 4 then decide (0 < ys.length) || (decide (ds.length = 0) && decide (ms.length = 0))
  else true
theorem suitB_is (fr ev ct un : Int) (ds : List Wd) (ms ys : List Int) : suitB ⟨fr, ev, ct, un, ds, ms, ys⟩ = sutB fr ds ms ys := rfl
theorem len_eq0 (l : Nat) (h : l = 0) : ((l : Int) == 0) = true := by subst h; rfl
theorem len_ne0 (l : Nat) (h : ¬ l = 0) : ((l : Int) == 0) = false := by rw [beq_eq_false_iff_ne]; omega
end Go.Proofs.YtojhajlhbhkddaaDoor

/- Walks of package rule: Same, Is. -/
namespace Go.Proofs.YtojhajlhbhkddaaDoor
open Go.RowKit Rul Go.Sort

theorem lies_once (w : World) : Lies w none 0 none 0 none 0 [] [] [] :=
  ⟨RowD.nil _ _, rfl, by simp, RowI.nil _ _, rfl, by simp, RowI.nil _ _, rfl, by simp⟩
def eq3 (ds ds2 : List Wd) (ms ms2 ys ys2 : List Int) : Bool := decide (ds = ds2) && (decide (ms = ms2) && decide (ys = ys2))
theorem recB_is (fr ev ct un : Int) (ds : List Wd) (ms ys : List Int) : recB ⟨fr, ev, ct, un, ds, ms, ys⟩ = (rngB fr ev ct un && (welB ds ms ys && sutB fr ds ms ys)) := rfl
theorem sameB_is (fr ev ct un fr2 ev2 ct2 un2 : Int) (ds : List Wd) (ms ys : List Int) (ds2 : List Wd) (ms2 ys2 : List Int) : sameB ⟨fr, ev, ct, un, ds, ms, ys⟩ ⟨fr2, ev2, ct2, un2, ds2, ms2, ys2⟩ = ((fr == fr2) && ((ev == ev2) && ((ct == ct2) && (un == un2))) && eq3 ds ds2 ms ms2 ys ys2) := by
  show (decide (fr = fr2 ∧ ev = ev2 ∧ ct = ct2 ∧ un = un2) && eq3 ds ds2 ms ms2 ys ys2) = _
  congr 1
  rw [Bool.eq_iff_iff]; simp
end Go.Proofs.YtojhajlhbhkddaaDoor

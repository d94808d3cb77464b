/- Minutes' texts are good ones: no comma, only minutes that there are. -/
import Derived.Test.YtgdjeddelcfgeaaGreatDoorXW12
import Derived.Test.YtgdjeddelcfgeaaGreatDoorXM3
namespace Go.Proofs.YtgdjeddelcfgeaaGreatDoor
open Go.RowKit Rul Rt Go.Sort

theorem minE_in {y m d h i n : Int} (e : minE y m d h i = (n,0)) : 0 ≤ n ∧ n < 52596000:=by
 unfold minE at e
 cases hb : Cal.isB y m d
 ·rw [numE_11 y m d hb] at e
  simp at e
 ·by_cases hy : y < 2000 ∨ 2099 < y
  ·rw [numE_10 y m d hb hy] at e
   simp at e
  ·rw [numE_0 y m d hb (by omega) (by omega)] at e
   have hn:=Cal.num_bd y m d (by omega) (by omega) hb
   simp only [if_true] at e
   cases ht : timeB h i
   ·rw [ht] at e
    simp at e
   ·rw [ht] at e
    simp only [if_true,Prod.mk.injEq,and_true] at e
    have:=(timeB_iff h i).1 ht
    omega
theorem parse_in (l : Tx) (n : Int) (h : parseE l = (n,0)) : 0 ≤ n ∧ n < 52596000:=by
 unfold parseE at h
 split at h
 ·exact minE_in h
 ·simp at h
theorem unU_good : Ev.Good unU where
 comma v n h:=form_free v (un_form v n h) 44 (by decide) (by decide)
 range v n h:=by
  have h' : unE v = some n:=h
  unfold unE at h'
  split at h'
  ·rename_i h0
   injection h' with h'
   exact parse_in v n (Prod.ext h' h0)
  ·cases h'
 free n:=by
  by_cases h : 0 ≤ n ∧ n < 52596000
  ·exact form_free _ (text_form n h.1 h.2) 44 (by decide) (by decide)
  ·have : textOf n = []:=if_neg h
   show (44 : UInt8) ∉ textOf n
   rw [this]; simp

end Go.Proofs.YtgdjeddelcfgeaaGreatDoor

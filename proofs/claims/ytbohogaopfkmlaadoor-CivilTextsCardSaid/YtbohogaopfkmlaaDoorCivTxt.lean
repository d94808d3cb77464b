/- Plain facts on the texts of minutes: what is printed is read; texts rise as minutes do. -/
import Derived.Test.YtbohogaopfkmlaaDoorCivM
namespace Go.Proofs.YtbohogaopfkmlaaDoor
open Go.RowKit

theorem dg_nat (d : Nat) (h : d < 10) : (dg d).toNat = 48 + d := by
  unfold dg
  rw [UInt8.toNat_ofNat']
  omega
theorem dg_digit (d : Nat) (h : d < 10) : digit (dg d) = true := by rw [digit_iff, dg_nat d h]; omega
theorem digits_two (u : Nat) (h : u < 100) : digitsB (two u) = true := by
  simp only [two, digitsB, List.all_cons, List.all_nil, Bool.and_true, Bool.and_eq_true]
  exact ⟨dg_digit _ (by omega), dg_digit _ (by omega)⟩
theorem digitsB_app (a b : List UInt8) : digitsB (a ++ b) = (digitsB a && digitsB b) := by simp [digitsB]
theorem val_two (u : Nat) (h : u < 100) : val (two u) = u := by
  simp only [two, val, List.foldl_cons, List.foldl_nil, dg_nat (u / 10) (by omega), dg_nat (u % 10) (by omega)]
  omega
theorem val_year (u : Nat) (h : u < 100) : val ([50, 48] ++ two u) = 2000 + u := by
  simp only [two, val, List.cons_append, List.nil_append, List.foldl_cons, List.foldl_nil, dg_nat (u / 10) (by omega), dg_nat (u % 10) (by omega)]
  have e1 : ((50 : UInt8).toNat : Int) = 50 := rfl
  have e2 : ((48 : UInt8).toNat : Int) = 48 := rfl
  rw [e1, e2]
  omega

/-- the fields of a minute's text, in their ranges. -/
structure Fields (y m d h mi : Int) : Prop where
  y1 : 2000 ≤ y
  y2 : y ≤ 2099
  m1 : 0 ≤ m
  m2 : m < 100
  d1 : 0 ≤ d
  d2 : d < 100
  h1 : 0 ≤ h
  h2 : h < 100
  i1 : 0 ≤ mi
  i2 : mi < 100

theorem txt_form (y m d h mi : Int) (f : Fields y m d h mi) : formB (txt y m d h mi) = true := by
  obtain ⟨y1, y2, m1, m2, d1, d2, h1, h2, i1, i2⟩ := f
  have e8 : (txt y m d h mi).take 8 = [50, 48] ++ two (y - 2000).toNat ++ two m.toNat ++ two d.toNat := rfl
  have e9 : (txt y m d h mi).drop 9 = two h.toNat ++ two mi.toNat ++ [48, 48] := rfl
  have el : (txt y m d h mi).length = 15 := rfl
  have eg : (txt y m d h mi).getD 8 0 = 84 := rfl
  have ed : (txt y m d h mi).drop 13 = [48, 48] := rfl
  have z : digitsB [48, 48] = true := by decide
  have t : digitsB [50, 48] = true := by decide
  unfold formB
  rw [e8, e9, el, eg, ed]
  simp only [digitsB_app, digits_two _ (show (y - 2000).toNat < 100 by omega), digits_two _ (show m.toNat < 100 by omega), digits_two _ (show d.toNat < 100 by omega), digits_two _ (show h.toNat < 100 by omega), digits_two _ (show mi.toNat < 100 by omega), z, t]
  decide
theorem txt_parse (y m d h mi : Int) (f : Fields y m d h mi) : parseE (txt y m d h mi) = minE y m d h mi := by
  have hf := txt_form y m d h mi f
  obtain ⟨y1, y2, m1, m2, d1, d2, h1, h2, i1, i2⟩ := f
  unfold parseE
  rw [if_pos hf]
  have e1 : (txt y m d h mi).take 4 = [50, 48] ++ two (y - 2000).toNat := rfl
  have e2 : ((txt y m d h mi).drop 4).take 2 = two m.toNat := rfl
  have e3 : ((txt y m d h mi).drop 6).take 2 = two d.toNat := rfl
  have e4 : ((txt y m d h mi).drop 9).take 2 = two h.toNat := rfl
  have e5 : ((txt y m d h mi).drop 11).take 2 = two mi.toNat := rfl
  rw [e1, e2, e3, e4, e5, val_year _ (by omega), val_two _ (by omega), val_two _ (by omega), val_two _ (by omega), val_two _ (by omega)]
  congr 1 <;> omega

theorem fields_of (x : Int) (h1 : 0 ≤ x) (h2 : x < 52596000) : Fields (Cal.yOf (x / 1440)) (Cal.mOf (x / 1440)) (Cal.dOf (x / 1440)) (x % 1440 / 60) (x % 60) := by
  have hy := Cal.yOf_bd (x / 1440) (by omega) (by omega)
  have hm := Cal.mOf_bd (x / 1440)
  have hd := Cal.dOf_bd (x / 1440) (by omega) (by omega)
  exact ⟨hy.1, hy.2, by omega, by omega, by omega, by omega, by omega, by omega, by omega, by omega⟩
theorem textOf_in (x : Int) (h1 : 0 ≤ x) (h2 : x < 52596000) : textOf x = txt (Cal.yOf (x / 1440)) (Cal.mOf (x / 1440)) (Cal.dOf (x / 1440)) (x % 1440 / 60) (x % 60) := if_pos ⟨h1, h2⟩
theorem numE_of (n : Int) (h1 : 0 ≤ n) (h2 : n < 36525) : numE (Cal.yOf n) (Cal.mOf n) (Cal.dOf n) = (n, 0) := by
  have hy := Cal.yOf_bd n h1 h2
  rw [numE_0 _ _ _ (Cal.of_is n h1 h2) hy.1 hy.2, Cal.of_num]
theorem minE_of (x : Int) (h1 : 0 ≤ x) (h2 : x < 52596000) : minE (Cal.yOf (x / 1440)) (Cal.mOf (x / 1440)) (Cal.dOf (x / 1440)) (x % 1440 / 60) (x % 60) = (x, 0) := by
  unfold minE
  rw [numE_of (x / 1440) (by omega) (by omega)]
  simp only
  rw [if_pos trivial, if_pos ((timeB_iff _ _).2 (by omega))]
  have : x / 1440 * 1440 + x % 1440 / 60 * 60 + x % 60 = x := by omega
  rw [this]
theorem parse_text (x : Int) (h1 : 0 ≤ x) (h2 : x < 52596000) : parseE (textOf x) = (x, 0) := by
  rw [textOf_in x h1 h2, txt_parse _ _ _ _ _ (fields_of x h1 h2), minE_of x h1 h2]

end Go.Proofs.YtbohogaopfkmlaaDoor

/- Walks of package civil: digits. -/
import Derived.Test.YtbohogaopfkmlaaDoorCivH
import Derived.Test.YtbohogaopfkmlaaDoorShelf
import Derived.WalkSmall
import Derived.Lib.LaidTab
namespace Go.Proofs.YtbohogaopfkmlaaDoor
open Go.RowKit

/-- the library's table of powers of ten lies as its initialiser laid it. -/
def Tab (w : World) : Prop := Lib.TabIs Tryd.prog w "internal/strconv.uint64pow10" .u64 Lib.pow10Tab

/-- a digit's byte; a text out of its bytes. -/
def dg (d : Nat) : UInt8 := UInt8.ofNat (48 + d)
def str (l : List UInt8) : ByteArray := ⟨l.toArray⟩
theorem str_size (l : List UInt8) : (str l).size = l.length := by simp [str, ByteArray.size]
theorem str_app (a b : List UInt8) : str a ++ str b = str (a ++ b) := by
  apply ByteArray.ext
  simp [str, ByteArray.data_append]
theorem str_list (l : List UInt8) : (str l).data.toList = l := by simp [str]
/-- two digits of a number below a hundred. -/
def two (u : Nat) : List UInt8 := [dg (u / 10), dg (u % 10)]

theorem dec_1 (u : Nat) (h : u < 10) : Lib.decDigits u = [dg u] := by
  rw [Lib.decDigits, dif_pos h]; rfl
theorem dec_2 (u : Nat) (h1 : 10 ≤ u) (h2 : u < 100) : Lib.decDigits u = two u := by
  rw [Lib.decDigits, dif_neg (by omega), dec_1 (u / 10) (by omega)]; rfl
theorem dec_4 (u : Nat) (h1 : 2000 ≤ u) (h2 : u < 2100) : Lib.decDigits u = [50, 48] ++ two (u - 2000) := by
  rw [Lib.decDigits, dif_neg (by omega), Lib.decDigits, dif_neg (by omega), dec_2 (u / 10 / 10) (by omega) (by omega)]
  unfold two
  have e1 : u / 10 / 10 / 10 = 2 := by omega
  have e2 : u / 10 / 10 % 10 = 0 := by omega
  have e3 : u / 10 % 10 = (u - 2000) / 10 := by omega
  have e4 : u % 10 = (u - 2000) % 10 := by omega
  rw [e1, e2, e3, e4]; rfl
theorem two_1 (u : Nat) (h : u < 10) : [48] ++ [dg u] = two u := by
  unfold two
  rw [Nat.div_eq_of_lt h, Nat.mod_eq_of_lt h]; rfl

theorem itoa_1 (u : Nat) (h : u < 10) (w : World) :
    Calls Tryd.prog 45 #[.int .i64 u] w fun e w' => e = .returned (.string (str [dg u])) ∧ w = w' :=
  (Tryd.strconv_Itoa_small u (by omega) w).mono fun e w' ⟨he, hw⟩ => ⟨by rw [he, dec_1 u h]; rfl, hw.symm⟩
theorem itoa_2 (u : Nat) (h1 : 10 ≤ u) (h2 : u < 100) (w : World) :
    Calls Tryd.prog 45 #[.int .i64 u] w fun e w' => e = .returned (.string (str (two u))) ∧ w = w' :=
  (Tryd.strconv_Itoa_small u (by omega) w).mono fun e w' ⟨he, hw⟩ => ⟨by rw [he, dec_2 u h1 h2]; rfl, hw.symm⟩
theorem below_growN (w : World) (k : Nat) (os : Array Obj) : Below w.heap.size w (Sort.grow (w.drewN k) os) := by
  refine ⟨rfl, rfl, rfl, ?_, ?_⟩
  · simp [Sort.grow]
  · intro i hi
    simp only [Sort.grow]
    exact Array.getElem?_append_left (by simpa using hi)
theorem itoa_4 (u : Nat) (h1 : 2000 ≤ u) (h2 : u < 2100) (w : World) (ht : Tab w) :
    Calls Tryd.prog 45 #[.int .i64 u] w fun e w' => e = .returned (.string (str ([50, 48] ++ two (u - 2000)))) ∧ Below w.heap.size w w' :=
  (Tryd.strconv_Itoa u (by omega) (by omega) w ht).mono fun e w' ⟨he, k, os, hw⟩ => ⟨by
    have e1 : Lib.itoa (u : Int) = Lib.decDigits u := Lib.itoa_nonneg u
    rw [he, e1, dec_4 u h1 h2]; rfl, by rw [hw]; exact below_growN w k os⟩

theorem repeat_0 (s : ByteArray) (n : Int) (w : World) (h : n = 0) :
    Calls Tryd.prog 46 #[.string s, .int .i64 n] w fun e w' => e = .returned (.string (str [])) ∧ w = w' := by
  subst h; exact (Tryd.strings_Repeat_zero s w).mono fun _ _ ⟨he, hw⟩ => ⟨he, hw.symm⟩
theorem repeat_1 (s : ByteArray) (n : Int) (w : World) (h : n = 1) :
    Calls Tryd.prog 46 #[.string s, .int .i64 n] w fun e w' => e = .returned (.string s) ∧ w = w' := by
  subst h; exact (Tryd.strings_Repeat_one s w).mono fun _ _ ⟨he, hw⟩ => ⟨he, hw.symm⟩

theorem ret_str {a b : ByteArray} (h : a = b) : Ending.returned (.string a) = .returned (.string b) := by rw [h]
theorem zero_str : (⟨#[48]⟩ : ByteArray) = str [48] := rfl

set_option maxHeartbeats 400000 in
theorem digits_1 (u : Nat) (h : u < 10) (w : World) :
    Calls Tryd.prog 38 #[.int .i64 u, .int .i64 2] w fun e w' => e = .returned (.string (str (two u))) ∧ w = w' := by
  have hs : (str [dg u]).size = 1 := by rw [str_size]; rfl
  go_enter Tryd.func38, Tryd.ntmps38
  go_wp2_with fail
  refine (itoa_1 u h _).mono ?_
  rintro e w1 ⟨rfl, rfl⟩
  go_wp2_with fail
  refine (repeat_1 _ _ _ (by decide)).mono ?_
  rintro e w1 ⟨rfl, rfl⟩
  go_wp2_with fail
  go_ret
  exact ⟨ret_str (by rw [zero_str, str_app, two_1 u h]), rfl⟩
set_option maxHeartbeats 400000 in
theorem digits_2 (u : Nat) (h1 : 10 ≤ u) (h2 : u < 100) (w : World) :
    Calls Tryd.prog 38 #[.int .i64 u, .int .i64 2] w fun e w' => e = .returned (.string (str (two u))) ∧ w = w' := by
  have hs : (str (two u)).size = 2 := by rw [str_size]; rfl
  go_enter Tryd.func38, Tryd.ntmps38
  go_wp2_with fail
  refine (itoa_2 u h1 h2 _).mono ?_
  rintro e w1 ⟨rfl, rfl⟩
  go_wp2_with fail
  refine (repeat_0 _ _ _ (by decide)).mono ?_
  rintro e w1 ⟨rfl, rfl⟩
  go_wp2_with fail
  go_ret
  exact ⟨ret_str (by rw [str_app]; rfl), rfl⟩
set_option maxHeartbeats 400000 in
theorem digits_4 (u : Nat) (h1 : 2000 ≤ u) (h2 : u < 2100) (w : World) (ht : Tab w) :
    Calls Tryd.prog 38 #[.int .i64 u, .int .i64 4] w fun e w' => e = .returned (.string (str ([50, 48] ++ two (u - 2000)))) ∧ Below w.heap.size w w' := by
  have hs : (str ([50, 48] ++ two (u - 2000))).size = 4 := by rw [str_size]; rfl
  generalize hl : [50, 48] ++ two (u - 2000) = l at *
  have HL := hide hl
  clear hl
  go_enter Tryd.func38, Tryd.ntmps38
  go_wp2_with fail
  refine (itoa_4 u h1 h2 _ ht).mono ?_
  rw [HL.out]
  rintro e w1 ⟨rfl, hb⟩
  go_wp2_with fail
  refine (repeat_0 _ _ _ (by decide)).mono ?_
  rintro e w2 ⟨rfl, rfl⟩
  go_wp2_with fail
  go_ret
  exact ⟨ret_str (by rw [str_app]; rfl), hb⟩

theorem digits_any (n : Int) (w : World) (h1 : 0 ≤ n) (h2 : n < 100) :
    Calls Tryd.prog 38 #[.int .i64 n, .int .i64 2] w fun e w' => e = .returned (.string (str (two n.toNat))) ∧ w = w' := by
  obtain ⟨u, rfl⟩ := Int.eq_ofNat_of_zero_le h1
  rw [Int.toNat_natCast]
  by_cases h : u < 10
  · exact digits_1 u h w
  · exact digits_2 u (by omega) (by omega) w
theorem digits_year (n : Int) (w : World) (h1 : 2000 ≤ n) (h2 : n ≤ 2099) (ht : Tab w) :
    Calls Tryd.prog 38 #[.int .i64 n, .int .i64 4] w fun e w' => e = .returned (.string (str ([50, 48] ++ two (n - 2000).toNat))) ∧ Below w.heap.size w w' := by
  obtain ⟨u, rfl⟩ := Int.eq_ofNat_of_zero_le (a := n) (by omega)
  rw [show ((u : Int) - 2000).toNat = u - 2000 from by omega]
  exact digits_4 u (by omega) (by omega) w ht

end Go.Proofs.YtbohogaopfkmlaaDoor

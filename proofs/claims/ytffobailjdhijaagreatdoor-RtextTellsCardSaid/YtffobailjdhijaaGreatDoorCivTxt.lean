/- Put together: CivI CivJ CivK CivL CivM CivTxt. -/
import Derived.Test.YtffobailjdhijaaGreatDoorCivH
import Derived.Test.YtffobailjdhijaaGreatDoorCivS
import Derived.Test.YtffobailjdhijaaGreatDoorShelf
import Derived.WalkSmall
import Derived.Lib.LaidTab
import Derived.Deep.RegionHeld3
import Derived.Lib.IndexBytes

/- Walks of package civil: digits. -/
namespace Go.Proofs.YtffobailjdhijaaGreatDoor
open Go.RowKit

/-- the library's table of powers of ten lies as its initialiser laid it. -/
def Tab (w : World) : Prop := Lib.TabIs Tryz.prog w "internal/strconv.uint64pow10" .u64 Lib.pow10Tab


theorem dec_1 (u : Nat) (h : u < 10) : Lib.decDigits u = [dg u] := by
  rw [Lib.decDigits, dif_pos h]; rfl
theorem dec_2 (u : Nat) (h1 : 10 ≤ u) (h2 : u < 100) : Lib.decDigits u = two u := by
  rw [Lib.decDigits, dif_neg (by omega), dec_1 (u / 10) (by omega)]; rfl
theorem dec_4 (u : Nat) (h1 : 2000 ≤ u) (h2 : u < 2100) : Lib.decDigits u = [50, 48] ++ two (u - 2000) := by
  rw [Lib.decDigits, dif_neg (by omega), Lib.decDigits, dif_neg (by omega), dec_2 (u / 10 / 10) (by omega) (by omega)]
  unfold two
  have e1 : u / 10 / 10 / 10 = 2 := by omega
  have e2 : u / 10 / 10 % 10 = 0 := by omega
  have e3 : u / 10 % 10 = (u - 2000) / 10 := by omega
  have e4 : u % 10 = (u - 2000) % 10 := by omega
  rw [e1, e2, e3, e4]; rfl
theorem two_1 (u : Nat) (h : u < 10) : [48] ++ [dg u] = two u := by
  unfold two
  rw [Nat.div_eq_of_lt h, Nat.mod_eq_of_lt h]; rfl

theorem itoa_1 (u : Nat) (h : u < 10) (w : World) :
    Calls Tryz.prog 32 #[.int .i64 u] w fun e w' => e = .returned (.string (str [dg u])) ∧ w = w' :=
  (Tryz.strconv_Itoa_small u (by omega) w).mono fun e w' ⟨he, hw⟩ => ⟨by rw [he, dec_1 u h]; rfl, hw.symm⟩
theorem itoa_2 (u : Nat) (h1 : 10 ≤ u) (h2 : u < 100) (w : World) :
    Calls Tryz.prog 32 #[.int .i64 u] w fun e w' => e = .returned (.string (str (two u))) ∧ w = w' :=
  (Tryz.strconv_Itoa_small u (by omega) w).mono fun e w' ⟨he, hw⟩ => ⟨by rw [he, dec_2 u h1 h2]; rfl, hw.symm⟩
theorem below_growN (w : World) (k : Nat) (os : Array Obj) : Below w.heap.size w (Sort.grow (w.drewN k) os) := by
  refine ⟨rfl, rfl, rfl, ?_, ?_⟩
  · simp [Sort.grow]
  · intro i hi
    simp only [Sort.grow]
    exact Array.getElem?_append_left (by simpa using hi)
theorem itoa_4 (u : Nat) (h1 : 2000 ≤ u) (h2 : u < 2100) (w : World) (ht : Tab w) :
    Calls Tryz.prog 32 #[.int .i64 u] w fun e w' => e = .returned (.string (str ([50, 48] ++ two (u - 2000)))) ∧ Below w.heap.size w w' :=
  (Tryz.strconv_Itoa u (by omega) (by omega) w ht).mono fun e w' ⟨he, k, os, hw⟩ => ⟨by
    have e1 : Lib.itoa (u : Int) = Lib.decDigits u := Lib.itoa_nonneg u
    rw [he, e1, dec_4 u h1 h2]; rfl, by rw [hw]; exact below_growN w k os⟩

theorem repeat_0 (s : ByteArray) (n : Int) (w : World) (h : n = 0) :
    Calls Tryz.prog 87 #[.string s, .int .i64 n] w fun e w' => e = .returned (.string (str [])) ∧ w = w' := by
  subst h; exact (Tryz.strings_Repeat_zero s w).mono fun _ _ ⟨he, hw⟩ => ⟨he, hw.symm⟩
theorem repeat_1 (s : ByteArray) (n : Int) (w : World) (h : n = 1) :
    Calls Tryz.prog 87 #[.string s, .int .i64 n] w fun e w' => e = .returned (.string s) ∧ w = w' := by
  subst h; exact (Tryz.strings_Repeat_one s w).mono fun _ _ ⟨he, hw⟩ => ⟨he, hw.symm⟩

theorem zero_str : (⟨#[48]⟩ : ByteArray) = str [48] := rfl

set_option maxHeartbeats 400000 in
theorem digits_1 (u : Nat) (h : u < 10) (w : World) :
    Calls Tryz.prog 56 #[.int .i64 u, .int .i64 2] w fun e w' => e = .returned (.string (str (two u))) ∧ w = w' := by
  have hs : (str [dg u]).size = 1 := by rw [str_size]; rfl
  go_enter Tryz.func56, Tryz.ntmps56
  go_wp2_with fail
  refine (itoa_1 u h _).mono ?_
  rintro e w1 ⟨rfl, rfl⟩
  go_wp2_with fail
  refine (repeat_1 _ _ _ (by decide)).mono ?_
  rintro e w1 ⟨rfl, rfl⟩
  go_wp2_with fail
  go_ret
  exact ⟨ret_str (by rw [zero_str, str_app, two_1 u h]), rfl⟩
set_option maxHeartbeats 400000 in
theorem digits_2 (u : Nat) (h1 : 10 ≤ u) (h2 : u < 100) (w : World) :
    Calls Tryz.prog 56 #[.int .i64 u, .int .i64 2] w fun e w' => e = .returned (.string (str (two u))) ∧ w = w' := by
  have hs : (str (two u)).size = 2 := by rw [str_size]; rfl
  go_enter Tryz.func56, Tryz.ntmps56
  go_wp2_with fail
  refine (itoa_2 u h1 h2 _).mono ?_
  rintro e w1 ⟨rfl, rfl⟩
  go_wp2_with fail
  refine (repeat_0 _ _ _ (by decide)).mono ?_
  rintro e w1 ⟨rfl, rfl⟩
  go_wp2_with fail
  go_ret
  exact ⟨ret_str (by rw [str_app]; rfl), rfl⟩
set_option maxHeartbeats 400000 in
theorem digits_4 (u : Nat) (h1 : 2000 ≤ u) (h2 : u < 2100) (w : World) (ht : Tab w) :
    Calls Tryz.prog 56 #[.int .i64 u, .int .i64 4] w fun e w' => e = .returned (.string (str ([50, 48] ++ two (u - 2000)))) ∧ Below w.heap.size w w' := by
  have hs : (str ([50, 48] ++ two (u - 2000))).size = 4 := by rw [str_size]; rfl
  generalize hl : [50, 48] ++ two (u - 2000) = l at *
  have HL := hide hl
  clear hl
  go_enter Tryz.func56, Tryz.ntmps56
  go_wp2_with fail
  refine (itoa_4 u h1 h2 _ ht).mono ?_
  rw [HL.out]
  rintro e w1 ⟨rfl, hb⟩
  go_wp2_with fail
  refine (repeat_0 _ _ _ (by decide)).mono ?_
  rintro e w2 ⟨rfl, rfl⟩
  go_wp2_with fail
  go_ret
  exact ⟨ret_str (by rw [str_app]; rfl), hb⟩

theorem digits_any (n : Int) (w : World) (h1 : 0 ≤ n) (h2 : n < 100) :
    Calls Tryz.prog 56 #[.int .i64 n, .int .i64 2] w fun e w' => e = .returned (.string (str (two n.toNat))) ∧ w = w' := by
  obtain ⟨u, rfl⟩ := Int.eq_ofNat_of_zero_le h1
  rw [Int.toNat_natCast]
  by_cases h : u < 10
  · exact digits_1 u h w
  · exact digits_2 u (by omega) (by omega) w
theorem digits_year (n : Int) (w : World) (h1 : 2000 ≤ n) (h2 : n ≤ 2099) (ht : Tab w) :
    Calls Tryz.prog 56 #[.int .i64 n, .int .i64 4] w fun e w' => e = .returned (.string (str ([50, 48] ++ two (n - 2000).toNat))) ∧ Below w.heap.size w w' := by
  obtain ⟨u, rfl⟩ := Int.eq_ofNat_of_zero_le (a := n) (by omega)
  rw [show ((u : Int) - 2000).toNat = u - 2000 from by omega]
  exact digits_4 u (by omega) (by omega) w ht

end Go.Proofs.YtffobailjdhijaaGreatDoor

/- Walks of package civil: Text. -/
namespace Go.Proofs.YtffobailjdhijaaGreatDoor
open Go.RowKit

theorem tab_global : Tryz.prog.globalNamed "internal/strconv.uint64pow10" = some 1 := by kernel_rfl
theorem Tab.lt {w : World} (h : Tab w) : 1 < w.heap.size := by
  unfold Tab Lib.TabIs World.var? at h
  rw [tab_global] at h
  simp only [Option.bind_some] at h
  apply Classical.byContradiction
  intro hn
  rw [Array.getElem?_eq_none (by omega)] at h
  cases h
theorem Tab.below {B : Nat} {w w' : World} (h : Tab w) (hb : Below B w w') (hB : w.heap.size ≤ B) : Tab w' :=
  var?_below hb tab_global (Nat.lt_of_lt_of_le h.lt hB) h
theorem Tab.alloc {w : World} (h : Tab w) (o : Obj) : Tab (w.alloc o) := h.below ((Below.refl _ _).alloc (Nat.le_refl _) o) (Nat.le_refl _)
theorem Tab.drewN {w : World} (h : Tab w) (n : Nat) : Tab (w.drewN n) := h.below (below_drewN (Below.refl _ _) n) (Nat.le_refl _)

theorem Tab.drew {w : World} (h : Tab w) : Tab w.drew := h.below (Below.refl _ _).drew (Nat.le_refl _)

theorem held_step {W w2 w1 : World} {y mo d : Value} (hb : Below W.heap.size W w2)
    (h : W.cell? ⟨w1.heap.size, 0, none⟩ = some y ∧ W.cell? ⟨w1.heap.size, 1, none⟩ = some mo ∧ W.cell? ⟨w1.heap.size, 2, none⟩ = some d ∧ Tab W ∧ w1.heap.size < W.heap.size ∧ Below w1.heap.size w1 W) :
    w2.cell? ⟨w1.heap.size, 0, none⟩ = some y ∧ w2.cell? ⟨w1.heap.size, 1, none⟩ = some mo ∧ w2.cell? ⟨w1.heap.size, 2, none⟩ = some d ∧ Tab w2 ∧ w1.heap.size < w2.heap.size ∧ Below w1.heap.size w1 w2 := by
  obtain ⟨a, b, c, t, l, k⟩ := h
  have hc := (bcell hb).1
  exact ⟨by rw [hc _ _ l, a], by rw [hc _ _ l, b], by rw [hc _ _ l, c], t.below hb (Nat.le_refl _), Nat.lt_of_lt_of_le l hb.size, k.trans (hb.mono (by omega))⟩

/-- the digits of a year, of another part, as texts behind names. -/
def yr (n : Int) : ByteArray := str ([50, 48] ++ two (n - 2000).toNat)
def tw (n : Int) : ByteArray := str (two n.toNat)
theorem yr_size (n : Int) : (yr n).size = 4 := by unfold yr; rw [str_size]; rfl
theorem tw_size (n : Int) : (tw n).size = 2 := by unfold tw; rw [str_size]; rfl
theorem digits_yr (n : Int) (w : World) (h1 : 2000 ≤ n) (h2 : n ≤ 2099) (ht : Tab w) :
    Calls Tryz.prog 56 #[.int .i64 n, .int .i64 4] w fun e w' => e = .returned (.string (yr n)) ∧ Below w.heap.size w w' := digits_year n w h1 h2 ht
theorem digits_tw (n : Int) (w : World) (h1 : 0 ≤ n) (h2 : n < 100) :
    Calls Tryz.prog 56 #[.int .i64 n, .int .i64 2] w fun e w' => e = .returned (.string (tw n)) ∧ w = w' := digits_any n w h1 h2

/-- the text of a minute: its date's and its time's digits. -/
def txt (y m d h mi : Int) : List UInt8 := [50, 48] ++ two (y - 2000).toNat ++ two m.toNat ++ two d.toNat ++ [84] ++ two h.toNat ++ two mi.toNat ++ [48, 48]
theorem T_str : (⟨#[84]⟩ : ByteArray) = str [84] := rfl
theorem Z_str : (⟨#[48, 48]⟩ : ByteArray) = str [48, 48] := rfl
theorem txt_go (y m d h mi : Int) : yr y ++ tw m ++ tw d ++ ⟨#[84]⟩ ++ tw h ++ tw mi ++ ⟨#[48, 48]⟩ = str (txt y m d h mi) := by
  unfold yr tw txt
  simp only [T_str, Z_str, str_app]

set_option maxHeartbeats 400000 in
theorem Text_no (n : Int) (w : World) (h : n < 0 ∨ 52596000 ≤ n) :
    Calls Tryz.prog 30 #[.int .i64 n] w fun e w' => e = .returned (.string (str [])) ∧ Below w.heap.size w w' := by
  go_enter Tryz.func30, Tryz.ntmps30
  go_wp2_with fail
  refine (Clock_no n _ h).mono ?_
  rintro e w1 ⟨rfl, hb1⟩
  go_wp2_with fail
  go_ret
  refine ⟨rfl, ?_⟩
  repeat (first | exact Below.refl _ _ | exact hb1 | refine below_drewN ?_ _ | refine Below.setCell ?_ (by simp) _ | refine Below.alloc ?_ (by first | (simp; done) | (have := hb1.size; omega)) _)

set_option maxHeartbeats 1000000 in
theorem Text_yes (n y mo d h mi : Int) (w : World) (h1 : 0 ≤ n) (h2 : n < 52596000) (ht : Tab w)
    (hy : Cal.yOf (n / 1440) = y) (hmo : Cal.mOf (n / 1440) = mo) (hd : Cal.dOf (n / 1440) = d) (hh : n % 1440 / 60 = h) (hmi : n % 60 = mi)
    (y1 : 2000 ≤ y) (y2 : y ≤ 2099) (mo1 : 0 ≤ mo) (mo2 : mo < 100) (d1 : 0 ≤ d) (d2 : d < 100) (hh1 : 0 ≤ h) (hh2 : h < 100) (mi1 : 0 ≤ mi) (mi2 : mi < 100) :
    Calls Tryz.prog 30 #[.int .i64 n] w fun e w' => e = .returned (.string (str (txt y mo d h mi))) ∧ Below w.heap.size w w' := by
  have C := Clock_yes n w h1 h2
  rw [hy, hmo, hd, hh, hmi] at C
  have HC := hide C
  clear C hy hmo hd hh hmi
  have HT := hide ht
  clear ht
  have ysz := yr_size y
  have tsz := tw_size
  go_enter Tryz.func30, Tryz.ntmps30
  go_wp2_with fail
  refine HC.out.mono ?_
  rintro e w1 ⟨rfl, hb1⟩
  have HT1 := hide (HT.out.below hb1 (Nat.le_refl _))
  go_wp2_with fail
  go_region_held3 (fun w' => w'.cell? ⟨w1.heap.size, 0, none⟩ = some (.int .i64 y) ∧ w'.cell? ⟨w1.heap.size, 1, none⟩ = some (.int .i64 mo) ∧ w'.cell? ⟨w1.heap.size, 2, none⟩ = some (.int .i64 d) ∧ Tab w' ∧ w1.heap.size < w'.heap.size ∧ Below w1.heap.size w1 w')
    (first | exact ⟨by simp, by simp, by simp, (HT1.out.alloc _).drew, by simp, ((Below.refl _ _).alloc (Nat.le_refl _) _).drew⟩ | assumption | exact held_step (by assumption) (by assumption) | go_keep)
    (first | (go_at_call 56; with_reducible refine (digits_yr y _ y1 y2 ?_).mono ?_; (first | assumption | exact (HT1.out.alloc _).drew); rintro e w2 ⟨rfl, hb2⟩) | (go_at_call 56; with_reducible refine (digits_tw mo _ mo1 mo2).mono ?_; rintro e w2 ⟨rfl, rfl⟩) | (go_at_call 56; with_reducible refine (digits_tw d _ d1 d2).mono ?_; rintro e w2 ⟨rfl, rfl⟩))
  obtain ⟨_, _, _, _, hlt, hbel⟩ : _ ∧ _ ∧ _ ∧ _ ∧ _ ∧ _ := by assumption
  go_wp2_with fail
  refine (digits_tw h _ hh1 hh2).mono ?_
  rintro e w3 ⟨rfl, rfl⟩
  go_wp2_with fail
  refine (digits_tw mi _ mi1 mi2).mono ?_
  rintro e w3 ⟨rfl, rfl⟩
  go_wp2_with fail
  go_ret
  exact ⟨ret_str (txt_go y mo d h mi), hb1.trans (hbel.mono hb1.size)⟩

/-- the text of a minute, the empty one if there is no such minute. -/
def textOf (n : Int) : List UInt8 := if 0 ≤ n ∧ n < 52596000 then txt (Cal.yOf (n / 1440)) (Cal.mOf (n / 1440)) (Cal.dOf (n / 1440)) (n % 1440 / 60) (n % 60) else []
theorem Text_any (n : Int) (w : World) (ht : Tab w) :
    Calls Tryz.prog 30 #[.int .i64 n] w fun e w' => e = .returned (.string (str (textOf n))) ∧ Below w.heap.size w w' := by
  by_cases h : 0 ≤ n ∧ n < 52596000
  · have e : textOf n = txt (Cal.yOf (n / 1440)) (Cal.mOf (n / 1440)) (Cal.dOf (n / 1440)) (n % 1440 / 60) (n % 60) := if_pos h
    have hy := Cal.yOf_bd (n / 1440) (by omega) (by omega)
    have hm := Cal.mOf_bd (n / 1440)
    have hd := Cal.dOf_bd (n / 1440) (by omega) (by omega)
    rw [e]
    exact Text_yes n _ _ _ _ _ w h.1 h.2 ht rfl rfl rfl rfl rfl hy.1 hy.2 (by omega) (by omega) (by omega) (by omega) (by omega) (by omega) (by omega) (by omega)
  · have e : textOf n = [] := if_neg h
    rw [e]
    exact Text_no n w (by omega)

end Go.Proofs.YtffobailjdhijaaGreatDoor

/- Walks of package civil: a text's digits and what they are worth. -/
namespace Go.Proofs.YtffobailjdhijaaGreatDoor
open Go.RowKit

/-- is it a digit's byte? -/
def digit (c : UInt8) : Bool := decide (48 ≤ (c.toNat : Int)) && decide ((c.toNat : Int) ≤ 57)
def digitsB (l : List UInt8) : Bool := l.all digit
/-- what digits are worth. -/
def val (l : List UInt8) : Int := l.foldl (fun n c => n * 10 + ((c.toNat : Int) - 48)) 0
theorem val_snoc (l : List UInt8) (c : UInt8) : val (l ++ [c]) = val l * 10 + ((c.toNat : Int) - 48) := by simp [val]
theorem digitsB_snoc (l : List UInt8) (c : UInt8) : digitsB (l ++ [c]) = (digitsB l && digit c) := by simp [digitsB]
theorem take_snoc (s : ByteArray) (k : Nat) (h : k < s.size) : s.data.toList.take (k + 1) = s.data.toList.take k ++ [s[k]] := by
  rw [List.take_succ_eq_append_getElem (by simpa using h)]; rfl
theorem digit_iff (c : UInt8) : digit c = true ↔ 48 ≤ (c.toNat : Int) ∧ (c.toNat : Int) ≤ 57 := by simp [digit]

theorem digit_low (c : UInt8) (h : (c.toNat : Int) < 48) : digit c = false := by unfold digit; simp only [Bool.and_eq_false_iff, decide_eq_false_iff_not]; omega
theorem digit_high (c : UInt8) (h : 57 < (c.toNat : Int)) : digit c = false := by unfold digit; simp only [Bool.and_eq_false_iff, decide_eq_false_iff_not]; omega
theorem digit_in (c : UInt8) (h1 : ¬ (c.toNat : Int) < 48) (h2 : ¬ 57 < (c.toNat : Int)) : digit c = true := by rw [digit_iff]; omega
theorem digitsB_not (s : ByteArray) (k : Nat) (h : k < s.size) (hd : digit s[k] = false) : false = digitsB s.data.toList := by
  symm
  unfold digitsB
  rw [Bool.eq_false_iff]
  intro ha
  rw [List.all_eq_true] at ha
  have := ha s[k] (by simp [ByteArray.getElem_eq_getElem_data])
  rw [hd] at this
  cases this
theorem digitsB_next (s : ByteArray) (k : Nat) (h : k < s.size) (hp : digitsB (s.data.toList.take k) = true) (hd : digit s[k] = true) : digitsB (s.data.toList.take (k + 1)) = true := by
  rw [take_snoc s k h, digitsB_snoc, hp, hd]; rfl
theorem digitsB_all (s : ByteArray) (k : Nat) (h : ¬ k < s.size) (hp : digitsB (s.data.toList.take k) = true) : true = digitsB s.data.toList := by
  rw [List.take_of_length_le (by simp; omega)] at hp
  exact hp.symm

set_option maxHeartbeats 400000 in
theorem areDigits_any (s : ByteArray) (w : World) (hs : s.size ≤ 1000000) :
    Calls Tryz.prog 160 #[.string s] w fun e w' => e = .returned (.bool (digitsB s.data.toList)) ∧ w = w' := by
  go_enter Tryz.func160, Tryz.ntmps160
  go_wp2_with fail
  go_loop [6] (fun i => ∃ k : Nat, k ≤ s.size ∧ i = .int .i64 k ∧ Hid (digitsB (s.data.toList.take k) = true)) (fun i => s.size - (intOf i).toNat)
  case atStart => exact ⟨0, Nat.zero_le _, rfl, rfl⟩
  case round =>
    obtain ⟨k, hk, rfl, hd⟩ := hrel
    by_cases hlt : k < s.size
    · by_cases c1 : (s[k].toNat : Int) < 48
      · have HF := hide (digitsB_not s k hlt (digit_low _ c1))
        go_wp2
        go_ret
        exact ⟨ret_bool HF.out, rfl⟩
      · by_cases c2 : 57 < (s[k].toNat : Int)
        · have HF := hide (digitsB_not s k hlt (digit_high _ c2))
          go_wp2
          go_ret
          exact ⟨ret_bool HF.out, rfl⟩
        · have HN := hide (digitsB_next s k hlt hd.out (digit_in _ c1 c2))
          go_wp2
          go_round
          case rel => exact ⟨k + 1, by omega, by go_num, HN⟩
          case measure => simp [intOf]; omega
    · have HF := hide (digitsB_all s k hlt hd.out)
      go_wp2
      go_ret
      exact ⟨ret_bool HF.out, rfl⟩

theorem fold_bd (l : List UInt8) : ∀ a : Int, 0 ≤ a → digitsB l = true → 0 ≤ l.foldl (fun n c => n * 10 + ((c.toNat : Int) - 48)) a ∧ l.foldl (fun n c => n * 10 + ((c.toNat : Int) - 48)) a < (a + 1) * 10 ^ l.length := by
  induction l with
  | nil => intro a h _; simp; omega
  | cons c l ih =>
    intro a h hd
    simp only [digitsB, List.all_cons, Bool.and_eq_true] at hd
    have hc := (digit_iff c).1 hd.1
    have := ih (a * 10 + ((c.toNat : Int) - 48)) (by omega) hd.2
    rw [List.foldl_cons, List.length_cons, Int.pow_succ]
    refine ⟨this.1, Int.lt_of_lt_of_le this.2 ?_⟩
    have hp : (0 : Int) ≤ 10 ^ l.length := Int.le_of_lt (Int.pow_pos (by decide))
    have : (a * 10 + ((c.toNat : Int) - 48) + 1) * 10 ^ l.length ≤ ((a + 1) * 10) * 10 ^ l.length := Int.mul_le_mul_of_nonneg_right (by omega) hp
    have e : (a + 1) * (10 ^ l.length * 10) = ((a + 1) * 10) * 10 ^ l.length := by
      rw [Int.mul_assoc, Int.mul_comm 10]
    rw [e]
    exact this
theorem val_bd (l : List UInt8) (h : digitsB l = true) : 0 ≤ val l ∧ val l < 10 ^ l.length := by
  have := fold_bd l 0 (by decide) h
  simpa [val] using this
theorem val_le (l : List UInt8) (h : digitsB l = true) (hl : l.length ≤ 3) : 0 ≤ val l ∧ val l ≤ 999 := by
  have := val_bd l h
  have h4 : l.length = 0 ∨ l.length = 1 ∨ l.length = 2 ∨ l.length = 3 := by omega
  rcases h4 with e | e | e | e <;> rw [e] at this <;> simp at this <;> omega
theorem val_4 (l : List UInt8) (h : digitsB l = true) (hl : l.length = 4) : 0 ≤ val l ∧ val l ≤ 9999 := by
  have := val_bd l h
  rw [hl] at this
  simp at this; omega
theorem val_2 (l : List UInt8) (h : digitsB l = true) (hl : l.length = 2) : 0 ≤ val l ∧ val l ≤ 99 := by
  have := val_bd l h
  rw [hl] at this
  simp at this; omega
theorem digitsB_take (l : List UInt8) (k : Nat) (h : digitsB l = true) : digitsB (l.take k) = true := by
  unfold digitsB at *
  rw [List.all_eq_true] at *
  exact fun x hx => h x (List.mem_of_mem_take hx)
theorem digitsB_drop (l : List UInt8) (k : Nat) (h : digitsB l = true) : digitsB (l.drop k) = true := by
  unfold digitsB at *
  rw [List.all_eq_true] at *
  exact fun x hx => h x (List.mem_of_mem_drop hx)
theorem digitsB_at (s : ByteArray) (k : Nat) (h : k < s.size) (hd : digitsB s.data.toList = true) : 48 ≤ (s[k].toNat : Int) ∧ (s[k].toNat : Int) ≤ 57 := by
  unfold digitsB at hd
  rw [List.all_eq_true] at hd
  exact (digit_iff _).1 (hd s[k] (by simp [ByteArray.getElem_eq_getElem_data]))

set_option maxHeartbeats 400000 in
theorem value_any (s : ByteArray) (w : World) (hs : s.size ≤ 4) (hd : digitsB s.data.toList = true) :
    Calls Tryz.prog 132 #[.string s] w fun e w' => e = .returned (.int .i64 (val s.data.toList)) ∧ w = w' := by
  have HD := hide hd
  clear hd
  go_enter Tryz.func132, Tryz.ntmps132
  go_wp2_with fail
  go_loop [3, 7] (fun n i => ∃ k : Nat, k ≤ s.size ∧ i = .int .i64 k ∧ n = .int .i64 (val (s.data.toList.take k))) (fun _ i => s.size - (intOf i).toNat)
  case atStart => exact ⟨0, Nat.zero_le _, rfl, rfl⟩
  case round =>
    obtain ⟨k, hk, rfl, rfl⟩ := hrel
    by_cases hlt : k < s.size
    · have hc := digitsB_at s k hlt HD.out
      have hv := val_le _ (digitsB_take _ k HD.out) (by simp; omega)
      have HN : Hid (val (s.data.toList.take (k + 1)) = val (s.data.toList.take k) * 10 + ((s[k].toNat : Int) - 48)) := by rw [take_snoc s k hlt]; exact val_snoc _ _
      generalize val (s.data.toList.take k) = V at *
      go_wp2
      go_round
      case rel => exact ⟨k + 1, by omega, by go_num, by rw [HN.out]⟩
      case measure => simp [intOf]; omega
    · have HF : Hid (val (s.data.toList.take k) = val s.data.toList) := by rw [List.take_of_length_le (by simp; omega)]; rfl
      go_wp2
      go_ret
      exact ⟨ret_int HF.out, rfl⟩
end Go.Proofs.YtffobailjdhijaaGreatDoor

/- Walks of package civil: the form of a text; Parse. -/
namespace Go.Proofs.YtffobailjdhijaaGreatDoor
open Go.RowKit

theorem suffix_any (s p : ByteArray) (w : World) (hs : s.size ≤ 1000000) :
    Calls Tryz.prog 159 #[.string s, .string p] w fun e w' => e = .returned (.bool (Lib.hasSuffix s.data.toList p.data.toList)) ∧ w = w' :=
  (Tryz.strings_HasSuffix s p w (by omega)).mono fun _ _ ⟨he, hw⟩ => ⟨he, hw.symm⟩

/-- has a text the form of a minute's? -/
def formB (l : List UInt8) : Bool := decide (l.length = 15) && (l.getD 8 0 == 84) && (l.drop 13 == [48, 48]) && digitsB (l.take 8) && digitsB (l.drop 9)

theorem suffix_at (b : Bool) (s p : ByteArray) (w : World) (hs : s.size ≤ 1000000) (h : Lib.hasSuffix s.data.toList p.data.toList = b) :
    Calls Tryz.prog 159 #[.string s, .string p] w fun e w' => e = .returned (.bool b) ∧ w = w' := by
  subst h; exact suffix_any s p w hs
theorem areDigits_at (b : Bool) (s : ByteArray) (w : World) (hs : s.size ≤ 1000000) (h : digitsB s.data.toList = b) :
    Calls Tryz.prog 160 #[.string s] w fun e w' => e = .returned (.bool b) ∧ w = w' := by
  subst h; exact areDigits_any s w hs

set_option maxHeartbeats 400000 in
theorem hasForm_long (s : ByteArray) (w : World) (hn : s.size ≠ 15) :
    Calls Tryz.prog 131 #[.string s] w fun e w' => e = .returned (.bool false) ∧ w = w' := by
  have h15 : ((s.size : Int) != 15) = true := by rw [bne_iff_ne]; omega
  have h15' : ((s.size : Int) == 15) = false := by rw [beq_eq_false_iff_ne]; omega
  go_enter Tryz.func131, Tryz.ntmps131
  go_wp2_with fail
  go_ret
  exact ⟨rfl, rfl⟩

set_option maxHeartbeats 400000 in
theorem hasForm_mid (s : ByteArray) (w : World) (hn : s.size = 15) (ht : (((s[8]'(by omega)).toNat : Int) != 84) = true) :
    Calls Tryz.prog 131 #[.string s] w fun e w' => e = .returned (.bool false) ∧ w = w' := by
  go_enter Tryz.func131, Tryz.ntmps131
  go_wp2_with fail
  go_ret
  exact ⟨rfl, rfl⟩

set_option maxHeartbeats 400000 in
theorem hasForm_end (s : ByteArray) (w : World) (hn : s.size = 15) (ht : (((s[8]'(by omega)).toNat : Int) != 84) = false) (he : Lib.hasSuffix s.data.toList [48, 48] = false) :
    Calls Tryz.prog 131 #[.string s] w fun e w' => e = .returned (.bool false) ∧ w = w' := by
  have H := hide he
  clear he
  go_enter Tryz.func131, Tryz.ntmps131
  go_wp2_with fail
  refine (suffix_at false _ _ _ (by omega) H.out).mono ?_
  rintro e w' ⟨rfl, rfl⟩
  go_wp2_with fail
  go_ret
  exact ⟨rfl, rfl⟩

set_option maxHeartbeats 400000 in
theorem hasForm_a (s : ByteArray) (w : World) (hn : s.size = 15) (ht : (((s[8]'(by omega)).toNat : Int) != 84) = false) (he : Lib.hasSuffix s.data.toList [48, 48] = true) (hd : digitsB (s.extract 0 8).data.toList = false) :
    Calls Tryz.prog 131 #[.string s] w fun e w' => e = .returned (.bool false) ∧ w = w' := by
  have H := hide he
  have HD := hide hd
  have hsz : (s.extract 0 8).size = 8 := by simp [ByteArray.size_extract]; omega
  clear he hd
  go_enter Tryz.func131, Tryz.ntmps131
  go_wp2_with fail
  refine (suffix_at true _ _ _ (by omega) H.out).mono ?_
  rintro e w' ⟨rfl, rfl⟩
  go_wp2_with fail
  refine (areDigits_at false _ _ (by omega) HD.out).mono ?_
  rintro e w' ⟨rfl, rfl⟩
  go_wp2_with fail
  go_ret
  exact ⟨rfl, rfl⟩

set_option maxHeartbeats 400000 in
theorem hasForm_b (b : Bool) (s : ByteArray) (w : World) (hn : s.size = 15) (ht : (((s[8]'(by omega)).toNat : Int) != 84) = false) (he : Lib.hasSuffix s.data.toList [48, 48] = true) (hd : digitsB (s.extract 0 8).data.toList = true)
    (hd2 : digitsB (s.extract 9 15).data.toList = b) :
    Calls Tryz.prog 131 #[.string s] w fun e w' => e = .returned (.bool b) ∧ w = w' := by
  have H := hide he
  have HD := hide hd
  have HD2 := hide hd2
  have hsz : (s.extract 0 8).size = 8 := by simp [ByteArray.size_extract]; omega
  have hsz2 : (s.extract 9 15).size = 6 := by simp [ByteArray.size_extract]; omega
  clear he hd hd2
  go_enter Tryz.func131, Tryz.ntmps131
  go_wp2_with fail
  refine (suffix_at true _ _ _ (by omega) H.out).mono ?_
  rintro e w' ⟨rfl, rfl⟩
  go_wp2_with fail
  refine (areDigits_at true _ _ (by omega) HD.out).mono ?_
  rintro e w' ⟨rfl, rfl⟩
  go_wp2_with fail
  refine (areDigits_at b _ _ (by omega) HD2.out).mono ?_
  rintro e w' ⟨rfl, rfl⟩
  go_wp2_with fail
  go_ret
  exact ⟨rfl, rfl⟩

end Go.Proofs.YtffobailjdhijaaGreatDoor

/- Walks of package civil: Parse. -/
namespace Go.Proofs.YtffobailjdhijaaGreatDoor
open Go.RowKit

theorem at_8 (s : ByteArray) (h : s.size = 15) : s.data.toList.getD 8 0 = s[8]'(by omega) := by
  rw [List.getD_eq_getElem?_getD, List.getElem?_eq_getElem (by simpa using (by omega : 8 < s.size))]
  rfl
theorem suffix_00 (l : List UInt8) (h : l.length = 15) : Lib.hasSuffix l [48, 48] = (l.drop 13 == [48, 48]) := by
  unfold Lib.hasSuffix
  rw [Bool.eq_iff_iff, List.isSuffixOf_iff_suffix, List.suffix_iff_eq_drop]
  simp only [h, List.length_cons, List.length_nil, beq_iff_eq]
  exact ⟨fun h => h.symm, fun h => h.symm⟩
theorem not_84 (c : UInt8) : ((c.toNat : Int) != 84) = !(c == 84) := by
  by_cases h : c = 84
  · subst h; rfl
  · have h1 : (c == 84) = false := by simp [h]
    have h2 : ¬ c.toNat = 84 := fun e => h (UInt8.toNat_inj.1 e)
    rw [h1]
    simp only [Bool.not_false, bne_iff_ne]
    omega

theorem hasForm_any (s : ByteArray) (w : World) :
    Calls Tryz.prog 131 #[.string s] w fun e w' => e = .returned (.bool (formB s.data.toList)) ∧ w = w' := by
  have hl : s.data.toList.length = s.size := by simp
  unfold formB
  rw [hl]
  by_cases hn : s.size = 15
  · rw [decide_eq_true hn, Bool.true_and, at_8 s hn]
    cases ht : ((s[8]'(by omega)) == 84)
    · rw [Bool.false_and, Bool.false_and, Bool.false_and]
      exact hasForm_mid s w hn (by rw [not_84, ht]; rfl)
    · have ht' : (((s[8]'(by omega)).toNat : Int) != 84) = false := by rw [not_84, ht]; rfl
      rw [Bool.true_and]
      have hs := suffix_00 s.data.toList (hl.trans hn)
      cases he : (s.data.toList.drop 13 == [48, 48])
      · rw [Bool.false_and, Bool.false_and]
        exact hasForm_end s w hn ht' (hs.trans he)
      · rw [Bool.true_and]
        have e8 : (s.extract 0 8).data.toList = s.data.toList.take 8 := by rw [Lib.extract_data]; simp
        have e9 : (s.extract 9 15).data.toList = s.data.toList.drop 9 := by
          have := Lib.extract_to_end s 9
          rw [hn] at this
          exact this
        cases hd : digitsB (s.data.toList.take 8)
        · rw [Bool.false_and]
          exact hasForm_a s w hn ht' (hs.trans he) (by rw [e8, hd])
        · rw [Bool.true_and]
          exact hasForm_b _ s w hn ht' (hs.trans he) (by rw [e8, hd]) (by rw [e9])
  · rw [decide_eq_false hn, Bool.false_and, Bool.false_and, Bool.false_and, Bool.false_and]
    exact hasForm_long s w hn

theorem hasForm_at (b : Bool) (s : ByteArray) (w : World) (h : formB s.data.toList = b) :
    Calls Tryz.prog 131 #[.string s] w fun e w' => e = .returned (.bool b) ∧ w = w' := by
  subst h; exact hasForm_any s w

set_option maxHeartbeats 400000 in
theorem Parse_no (s : ByteArray) (w : World) (h : formB s.data.toList = false) :
    Calls Tryz.prog 92 #[.string s] w fun e w' => e = .returned (.tuple #[.int .i64 0, .int .i64 14]) ∧ Below w.heap.size w w' := by
  have H := hide h
  clear h
  go_enter Tryz.func92, Tryz.ntmps92
  go_wp2_with fail
  refine (hasForm_at false s _ H.out).mono ?_
  rintro e w' ⟨rfl, rfl⟩
  go_wp2_with fail
  go_ret2
  exact ⟨rfl, Below.refl _ _⟩

/-- the part of a text from a on, b - a bytes, as digits. -/
structure Part (s : ByteArray) (a b : Nat) : Prop where
  size : (s.extract a b).size = b - a
  small : b - a ≤ 4
  dig : digitsB (s.extract a b).data.toList = true
def pvc (s : ByteArray) (a b : Nat) : Int := val (s.extract a b).data.toList
theorem value_part (s : ByteArray) (a b : Nat) (w : World) (h : Part s a b) :
    Calls Tryz.prog 132 #[.string (s.extract a b)] w fun e w' => e = .returned (.int .i64 (pvc s a b)) ∧ w = w' := value_any _ w (by have := h.size; have := h.small; omega) h.dig

theorem held_step2 {W w2 w1 : World} {y mo d : Value} (hb : Below W.heap.size W w2)
    (h : W.cell? ⟨w1.heap.size, 0, none⟩ = some y ∧ W.cell? ⟨w1.heap.size, 1, none⟩ = some mo ∧ W.cell? ⟨w1.heap.size, 2, none⟩ = some d ∧ w1.heap.size < W.heap.size ∧ Below w1.heap.size w1 W) :
    w2.cell? ⟨w1.heap.size, 0, none⟩ = some y ∧ w2.cell? ⟨w1.heap.size, 1, none⟩ = some mo ∧ w2.cell? ⟨w1.heap.size, 2, none⟩ = some d ∧ w1.heap.size < w2.heap.size ∧ Below w1.heap.size w1 w2 := by
  obtain ⟨a, b, c, l, k⟩ := h
  have hc := (bcell hb).1
  exact ⟨by rw [hc _ _ l, a], by rw [hc _ _ l, b], by rw [hc _ _ l, c], Nat.lt_of_lt_of_le l hb.size, k.trans (hb.mono (by omega))⟩

set_option maxHeartbeats 1000000 in
theorem Parse_yes (s : ByteArray) (w : World) (h : formB s.data.toList = true) (hn : s.size = 15) (p1 : Part s 0 4) (p2 : Part s 4 6) (p3 : Part s 6 8) (p4 : Part s 9 11) (p5 : Part s 11 13) :
    Calls Tryz.prog 92 #[.string s] w fun e w' => e = .returned (.tuple #[.int .i64 (minE (pvc s 0 4) (pvc s 4 6) (pvc s 6 8) (pvc s 9 11) (pvc s 11 13)).1, .int .i64 (minE (pvc s 0 4) (pvc s 4 6) (pvc s 6 8) (pvc s 9 11) (pvc s 11 13)).2]) ∧ Below w.heap.size w w' := by
  have H := hide h
  clear h
  go_enter Tryz.func92, Tryz.ntmps92
  go_wp2_with fail
  refine (hasForm_at true s _ H.out).mono ?_
  rintro e w' ⟨rfl, rfl⟩
  go_wp2_with fail
  go_region_held3 (fun _ => True) (first | exact trivial | go_keep)
    (first | (go_at_call 132; with_reducible refine (value_part s 0 4 _ p1).mono ?_; rintro e w2 ⟨rfl, rfl⟩) | (go_at_call 132; with_reducible refine (value_part s 4 6 _ p2).mono ?_; rintro e w2 ⟨rfl, rfl⟩) | (go_at_call 132; with_reducible refine (value_part s 6 8 _ p3).mono ?_; rintro e w2 ⟨rfl, rfl⟩))
  all_goals
    go_wp2_with fail
    go_region_held3 (fun w' => w'.cell? ⟨w.heap.size, 0, none⟩ = some (.int .i64 (pvc s 0 4)) ∧ w'.cell? ⟨w.heap.size, 1, none⟩ = some (.int .i64 (pvc s 4 6)) ∧ w'.cell? ⟨w.heap.size, 2, none⟩ = some (.int .i64 (pvc s 6 8)) ∧ w.heap.size < w'.heap.size ∧ Below w.heap.size w w')
      (first | exact ⟨by simp, by simp, by simp, by simp, by repeat (first | exact Below.refl _ _ | refine Below.drew ?_ | refine Below.setCell ?_ (by simp) _ | refine Below.alloc ?_ (by simp) _)⟩ | assumption | exact held_step2 (by assumption) (by assumption) | go_keep)
      (first | (go_at_call 132; with_reducible refine (value_part s 9 11 _ p4).mono ?_; rintro e w2 ⟨rfl, rfl⟩) | (go_at_call 132; with_reducible refine (value_part s 11 13 _ p5).mono ?_; rintro e w2 ⟨rfl, rfl⟩) | (go_at_call 133; with_reducible refine (Minute_any _ _ _ _ _ _).mono ?_; rintro e w2 ⟨rfl, hb2⟩))
    obtain ⟨_, _, _, _, hbel⟩ : _ ∧ _ ∧ _ ∧ _ ∧ _ := by assumption
    go_wp2_with fail
    go_ret2
    exact ⟨rfl, hbel⟩

/-- what Parse answers: the minute, or which error. -/
def parseE (l : List UInt8) : Int × Int := if formB l then minE (val (l.take 4)) (val ((l.drop 4).take 2)) (val ((l.drop 6).take 2)) (val ((l.drop 9).take 2)) (val ((l.drop 11).take 2)) else (0, 14)
theorem form_parts (l : List UInt8) (h : formB l = true) : l.length = 15 ∧ digitsB (l.take 8) = true ∧ digitsB (l.drop 9) = true := by
  unfold formB at h
  simp only [Bool.and_eq_true, decide_eq_true_eq] at h
  exact ⟨h.1.1.1.1, h.1.2, h.2⟩
theorem part_low (s : ByteArray) (a b : Nat) (hn : s.size = 15) (h : digitsB (s.data.toList.take 8) = true) (hb : b ≤ 8) (hab : b - a ≤ 4) : Part s a b where
  size := by rw [ByteArray.size_extract]; omega
  small := hab
  dig := by
    rw [Lib.extract_data]
    have e : (s.data.toList.drop a).take (b - a) = ((s.data.toList.take 8).drop a).take (b - a) := by
      rw [List.drop_take, List.take_take, Nat.min_eq_left (by omega)]
    rw [e]
    exact digitsB_take _ _ (digitsB_drop _ _ h)
theorem part_high (s : ByteArray) (a b : Nat) (hn : s.size = 15) (h : digitsB (s.data.toList.drop 9) = true) (ha : 9 ≤ a) (hb : b ≤ 15) (hab : b - a ≤ 4) : Part s a b where
  size := by rw [ByteArray.size_extract]; omega
  small := hab
  dig := by
    rw [Lib.extract_data]
    have e : s.data.toList.drop a = (s.data.toList.drop 9).drop (a - 9) := by
      rw [List.drop_drop]; congr 1; omega
    rw [e]
    exact digitsB_take _ _ (digitsB_drop _ _ h)

theorem Parse_any (s : ByteArray) (w : World) :
    Calls Tryz.prog 92 #[.string s] w fun e w' => e = .returned (.tuple #[.int .i64 (parseE s.data.toList).1, .int .i64 (parseE s.data.toList).2]) ∧ Below w.heap.size w w' := by
  cases hf : formB s.data.toList
  · have e : parseE s.data.toList = (0, 14) := by unfold parseE; rw [hf]; rfl
    rw [e]
    exact Parse_no s w hf
  · obtain ⟨hl, hd1, hd2⟩ := form_parts _ hf
    have hn : s.size = 15 := by rw [← hl]; simp
    have e : parseE s.data.toList = minE (pvc s 0 4) (pvc s 4 6) (pvc s 6 8) (pvc s 9 11) (pvc s 11 13) := by
      unfold parseE pvc
      rw [hf]
      simp only [Lib.extract_data, if_true, List.drop_zero]
    rw [e]
    exact Parse_yes s w hf hn (part_low s 0 4 hn hd1 (by omega) (by omega)) (part_low s 4 6 hn hd1 (by omega) (by omega)) (part_low s 6 8 hn hd1 (by omega) (by omega)) (part_high s 9 11 hn hd2 (by omega) (by omega) (by omega)) (part_high s 11 13 hn hd2 (by omega) (by omega) (by omega))

end Go.Proofs.YtffobailjdhijaaGreatDoor

/- Plain facts on the texts of minutes: what is printed is read; texts rise as minutes do. -/
namespace Go.Proofs.YtffobailjdhijaaGreatDoor
open Go.RowKit

theorem dg_nat (d : Nat) (h : d < 10) : (dg d).toNat = 48 + d := by
  unfold dg
  rw [UInt8.toNat_ofNat']
  omega
theorem dg_digit (d : Nat) (h : d < 10) : digit (dg d) = true := by rw [digit_iff, dg_nat d h]; omega
theorem digits_two (u : Nat) (h : u < 100) : digitsB (two u) = true := by
  simp only [two, digitsB, List.all_cons, List.all_nil, Bool.and_true, Bool.and_eq_true]
  exact ⟨dg_digit _ (by omega), dg_digit _ (by omega)⟩
theorem digitsB_app (a b : List UInt8) : digitsB (a ++ b) = (digitsB a && digitsB b) := by simp [digitsB]
theorem val_two (u : Nat) (h : u < 100) : val (two u) = u := by
  simp only [two, val, List.foldl_cons, List.foldl_nil, dg_nat (u / 10) (by omega), dg_nat (u % 10) (by omega)]
  omega
theorem val_year (u : Nat) (h : u < 100) : val ([50, 48] ++ two u) = 2000 + u := by
  simp only [two, val, List.cons_append, List.nil_append, List.foldl_cons, List.foldl_nil, dg_nat (u / 10) (by omega), dg_nat (u % 10) (by omega)]
  have e1 : ((50 : UInt8).toNat : Int) = 50 := rfl
  have e2 : ((48 : UInt8).toNat : Int) = 48 := rfl
  rw [e1, e2]
  omega

/-- the fields of a minute's text, in their ranges. -/
structure Fields (y m d h mi : Int) : Prop where
  y1 : 2000 ≤ y
  y2 : y ≤ 2099
  m1 : 0 ≤ m
  m2 : m < 100
  d1 : 0 ≤ d
  d2 : d < 100
  h1 : 0 ≤ h
  h2 : h < 100
  i1 : 0 ≤ mi
  i2 : mi < 100

theorem txt_form (y m d h mi : Int) (f : Fields y m d h mi) : formB (txt y m d h mi) = true := by
  obtain ⟨y1, y2, m1, m2, d1, d2, h1, h2, i1, i2⟩ := f
  have e8 : (txt y m d h mi).take 8 = [50, 48] ++ two (y - 2000).toNat ++ two m.toNat ++ two d.toNat := rfl
  have e9 : (txt y m d h mi).drop 9 = two h.toNat ++ two mi.toNat ++ [48, 48] := rfl
  have el : (txt y m d h mi).length = 15 := rfl
  have eg : (txt y m d h mi).getD 8 0 = 84 := rfl
  have ed : (txt y m d h mi).drop 13 = [48, 48] := rfl
  have z : digitsB [48, 48] = true := by decide
  have t : digitsB [50, 48] = true := by decide
  unfold formB
  rw [e8, e9, el, eg, ed]
  simp only [digitsB_app, digits_two _ (show (y - 2000).toNat < 100 by omega), digits_two _ (show m.toNat < 100 by omega), digits_two _ (show d.toNat < 100 by omega), digits_two _ (show h.toNat < 100 by omega), digits_two _ (show mi.toNat < 100 by omega), z, t]
  decide
theorem txt_parse (y m d h mi : Int) (f : Fields y m d h mi) : parseE (txt y m d h mi) = minE y m d h mi := by
  have hf := txt_form y m d h mi f
  obtain ⟨y1, y2, m1, m2, d1, d2, h1, h2, i1, i2⟩ := f
  unfold parseE
  rw [if_pos hf]
  have e1 : (txt y m d h mi).take 4 = [50, 48] ++ two (y - 2000).toNat := rfl
  have e2 : ((txt y m d h mi).drop 4).take 2 = two m.toNat := rfl
  have e3 : ((txt y m d h mi).drop 6).take 2 = two d.toNat := rfl
  have e4 : ((txt y m d h mi).drop 9).take 2 = two h.toNat := rfl
  have e5 : ((txt y m d h mi).drop 11).take 2 = two mi.toNat := rfl
  rw [e1, e2, e3, e4, e5, val_year _ (by omega), val_two _ (by omega), val_two _ (by omega), val_two _ (by omega), val_two _ (by omega)]
  congr 1 <;> omega

theorem fields_of (x : Int) (h1 : 0 ≤ x) (h2 : x < 52596000) : Fields (Cal.yOf (x / 1440)) (Cal.mOf (x / 1440)) (Cal.dOf (x / 1440)) (x % 1440 / 60) (x % 60) := by
  have hy := Cal.yOf_bd (x / 1440) (by omega) (by omega)
  have hm := Cal.mOf_bd (x / 1440)
  have hd := Cal.dOf_bd (x / 1440) (by omega) (by omega)
  exact ⟨hy.1, hy.2, by omega, by omega, by omega, by omega, by omega, by omega, by omega, by omega⟩
theorem textOf_in (x : Int) (h1 : 0 ≤ x) (h2 : x < 52596000) : textOf x = txt (Cal.yOf (x / 1440)) (Cal.mOf (x / 1440)) (Cal.dOf (x / 1440)) (x % 1440 / 60) (x % 60) := if_pos ⟨h1, h2⟩
theorem numE_of (n : Int) (h1 : 0 ≤ n) (h2 : n < 36525) : numE (Cal.yOf n) (Cal.mOf n) (Cal.dOf n) = (n, 0) := by
  have hy := Cal.yOf_bd n h1 h2
  rw [numE_0 _ _ _ (Cal.of_is n h1 h2) hy.1 hy.2, Cal.of_num]
theorem minE_of (x : Int) (h1 : 0 ≤ x) (h2 : x < 52596000) : minE (Cal.yOf (x / 1440)) (Cal.mOf (x / 1440)) (Cal.dOf (x / 1440)) (x % 1440 / 60) (x % 60) = (x, 0) := by
  unfold minE
  rw [numE_of (x / 1440) (by omega) (by omega)]
  simp only
  rw [if_pos trivial, if_pos ((timeB_iff _ _).2 (by omega))]
  have : x / 1440 * 1440 + x % 1440 / 60 * 60 + x % 60 = x := by omega
  rw [this]
theorem parse_text (x : Int) (h1 : 0 ≤ x) (h2 : x < 52596000) : parseE (textOf x) = (x, 0) := by
  rw [textOf_in x h1 h2, txt_parse _ _ _ _ _ (fields_of x h1 h2), minE_of x h1 h2]

end Go.Proofs.YtffobailjdhijaaGreatDoor

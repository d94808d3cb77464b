/- Walks of package civil: Text. -/
import Derived.Test.YtbohogaopfkmlaaDoorCivI
import Derived.Deep.RegionHeld3
namespace Go.Proofs.YtbohogaopfkmlaaDoor
open Go.RowKit

theorem tab_global : Tryd.prog.globalNamed "internal/strconv.uint64pow10" = some 0 := by kernel_rfl
theorem Tab.lt {w : World} (h : Tab w) : 0 < w.heap.size := by
  unfold Tab Lib.TabIs World.var? at h
  rw [tab_global] at h
  simp only [Option.bind_some] at h
  apply Classical.byContradiction
  intro hn
  rw [Array.getElem?_eq_none (by omega)] at h
  cases h
theorem Tab.below {B : Nat} {w w' : World} (h : Tab w) (hb : Below B w w') (hB : w.heap.size ≤ B) : Tab w' :=
  var?_below hb tab_global (Nat.lt_of_lt_of_le h.lt hB) h
theorem Tab.alloc {w : World} (h : Tab w) (o : Obj) : Tab (w.alloc o) := h.below ((Below.refl _ _).alloc (Nat.le_refl _) o) (Nat.le_refl _)
theorem Tab.drewN {w : World} (h : Tab w) (n : Nat) : Tab (w.drewN n) := h.below (below_drewN (Below.refl _ _) n) (Nat.le_refl _)

theorem Tab.drew {w : World} (h : Tab w) : Tab w.drew := h.below (Below.refl _ _).drew (Nat.le_refl _)

theorem held_step {W w2 w1 : World} {y mo d : Value} (hb : Below W.heap.size W w2)
    (h : W.cell? ⟨w1.heap.size, 0, none⟩ = some y ∧ W.cell? ⟨w1.heap.size, 1, none⟩ = some mo ∧ W.cell? ⟨w1.heap.size, 2, none⟩ = some d ∧ Tab W ∧ w1.heap.size < W.heap.size ∧ Below w1.heap.size w1 W) :
    w2.cell? ⟨w1.heap.size, 0, none⟩ = some y ∧ w2.cell? ⟨w1.heap.size, 1, none⟩ = some mo ∧ w2.cell? ⟨w1.heap.size, 2, none⟩ = some d ∧ Tab w2 ∧ w1.heap.size < w2.heap.size ∧ Below w1.heap.size w1 w2 := by
  obtain ⟨a, b, c, t, l, k⟩ := h
  have hc := (bcell hb).1
  exact ⟨by rw [hc _ _ l, a], by rw [hc _ _ l, b], by rw [hc _ _ l, c], t.below hb (Nat.le_refl _), Nat.lt_of_lt_of_le l hb.size, k.trans (hb.mono (by omega))⟩

/-- the digits of a year, of another part, as texts behind names. -/
def yr (n : Int) : ByteArray := str ([50, 48] ++ two (n - 2000).toNat)
def tw (n : Int) : ByteArray := str (two n.toNat)
theorem yr_size (n : Int) : (yr n).size = 4 := by unfold yr; rw [str_size]; rfl
theorem tw_size (n : Int) : (tw n).size = 2 := by unfold tw; rw [str_size]; rfl
theorem digits_yr (n : Int) (w : World) (h1 : 2000 ≤ n) (h2 : n ≤ 2099) (ht : Tab w) :
    Calls Tryd.prog 38 #[.int .i64 n, .int .i64 4] w fun e w' => e = .returned (.string (yr n)) ∧ Below w.heap.size w w' := digits_year n w h1 h2 ht
theorem digits_tw (n : Int) (w : World) (h1 : 0 ≤ n) (h2 : n < 100) :
    Calls Tryd.prog 38 #[.int .i64 n, .int .i64 2] w fun e w' => e = .returned (.string (tw n)) ∧ w = w' := digits_any n w h1 h2

/-- the text of a minute: its date's and its time's digits. -/
def txt (y m d h mi : Int) : List UInt8 := [50, 48] ++ two (y - 2000).toNat ++ two m.toNat ++ two d.toNat ++ [84] ++ two h.toNat ++ two mi.toNat ++ [48, 48]
theorem T_str : (⟨#[84]⟩ : ByteArray) = str [84] := rfl
theorem Z_str : (⟨#[48, 48]⟩ : ByteArray) = str [48, 48] := rfl
theorem txt_go (y m d h mi : Int) : yr y ++ tw m ++ tw d ++ ⟨#[84]⟩ ++ tw h ++ tw mi ++ ⟨#[48, 48]⟩ = str (txt y m d h mi) := by
  unfold yr tw txt
  simp only [T_str, Z_str, str_app]

set_option maxHeartbeats 400000 in
theorem Text_no (n : Int) (w : World) (h : n < 0 ∨ 52596000 ≤ n) :
    Calls Tryd.prog 27 #[.int .i64 n] w fun e w' => e = .returned (.string (str [])) ∧ Below w.heap.size w w' := by
  go_enter Tryd.func27, Tryd.ntmps27
  go_wp2_with fail
  refine (Clock_no n _ h).mono ?_
  rintro e w1 ⟨rfl, hb1⟩
  go_wp2_with fail
  go_ret
  refine ⟨rfl, ?_⟩
  repeat (first | exact Below.refl _ _ | exact hb1 | refine below_drewN ?_ _ | refine Below.setCell ?_ (by simp) _ | refine Below.alloc ?_ (by first | (simp; done) | (have := hb1.size; omega)) _)

set_option maxHeartbeats 1000000 in
theorem Text_yes (n y mo d h mi : Int) (w : World) (h1 : 0 ≤ n) (h2 : n < 52596000) (ht : Tab w)
    (hy : Cal.yOf (n / 1440) = y) (hmo : Cal.mOf (n / 1440) = mo) (hd : Cal.dOf (n / 1440) = d) (hh : n % 1440 / 60 = h) (hmi : n % 60 = mi)
    (y1 : 2000 ≤ y) (y2 : y ≤ 2099) (mo1 : 0 ≤ mo) (mo2 : mo < 100) (d1 : 0 ≤ d) (d2 : d < 100) (hh1 : 0 ≤ h) (hh2 : h < 100) (mi1 : 0 ≤ mi) (mi2 : mi < 100) :
    Calls Tryd.prog 27 #[.int .i64 n] w fun e w' => e = .returned (.string (str (txt y mo d h mi))) ∧ Below w.heap.size w w' := by
  have C := Clock_yes n w h1 h2
  rw [hy, hmo, hd, hh, hmi] at C
  have HC := hide C
  clear C hy hmo hd hh hmi
  have HT := hide ht
  clear ht
  have ysz := yr_size y
  have tsz := tw_size
  go_enter Tryd.func27, Tryd.ntmps27
  go_wp2_with fail
  refine HC.out.mono ?_
  rintro e w1 ⟨rfl, hb1⟩
  have HT1 := hide (HT.out.below hb1 (Nat.le_refl _))
  go_wp2_with fail
  go_region_held3 (fun w' => w'.cell? ⟨w1.heap.size, 0, none⟩ = some (.int .i64 y) ∧ w'.cell? ⟨w1.heap.size, 1, none⟩ = some (.int .i64 mo) ∧ w'.cell? ⟨w1.heap.size, 2, none⟩ = some (.int .i64 d) ∧ Tab w' ∧ w1.heap.size < w'.heap.size ∧ Below w1.heap.size w1 w')
    (first | exact ⟨by simp, by simp, by simp, (HT1.out.alloc _).drew, by simp, ((Below.refl _ _).alloc (Nat.le_refl _) _).drew⟩ | assumption | exact held_step (by assumption) (by assumption) | go_keep)
    (first | (go_at_call 38; with_reducible refine (digits_yr y _ y1 y2 ?_).mono ?_; (first | assumption | exact (HT1.out.alloc _).drew); rintro e w2 ⟨rfl, hb2⟩) | (go_at_call 38; with_reducible refine (digits_tw mo _ mo1 mo2).mono ?_; rintro e w2 ⟨rfl, rfl⟩) | (go_at_call 38; with_reducible refine (digits_tw d _ d1 d2).mono ?_; rintro e w2 ⟨rfl, rfl⟩))
  obtain ⟨_, _, _, _, hlt, hbel⟩ : _ ∧ _ ∧ _ ∧ _ ∧ _ ∧ _ := by assumption
  go_wp2_with fail
  refine (digits_tw h _ hh1 hh2).mono ?_
  rintro e w3 ⟨rfl, rfl⟩
  go_wp2_with fail
  refine (digits_tw mi _ mi1 mi2).mono ?_
  rintro e w3 ⟨rfl, rfl⟩
  go_wp2_with fail
  go_ret
  exact ⟨ret_str (txt_go y mo d h mi), hb1.trans (hbel.mono hb1.size)⟩

/-- the text of a minute, the empty one if there is no such minute. -/
def textOf (n : Int) : List UInt8 := if 0 ≤ n ∧ n < 52596000 then txt (Cal.yOf (n / 1440)) (Cal.mOf (n / 1440)) (Cal.dOf (n / 1440)) (n % 1440 / 60) (n % 60) else []
theorem Text_any (n : Int) (w : World) (ht : Tab w) :
    Calls Tryd.prog 27 #[.int .i64 n] w fun e w' => e = .returned (.string (str (textOf n))) ∧ Below w.heap.size w w' := by
  by_cases h : 0 ≤ n ∧ n < 52596000
  · have e : textOf n = txt (Cal.yOf (n / 1440)) (Cal.mOf (n / 1440)) (Cal.dOf (n / 1440)) (n % 1440 / 60) (n % 60) := if_pos h
    have hy := Cal.yOf_bd (n / 1440) (by omega) (by omega)
    have hm := Cal.mOf_bd (n / 1440)
    have hd := Cal.dOf_bd (n / 1440) (by omega) (by omega)
    rw [e]
    exact Text_yes n _ _ _ _ _ w h.1 h.2 ht rfl rfl rfl rfl rfl hy.1 hy.2 (by omega) (by omega) (by omega) (by omega) (by omega) (by omega) (by omega) (by omega)
  · have e : textOf n = [] := if_neg h
    rw [e]
    exact Text_no n w (by omega)

end Go.Proofs.YtbohogaopfkmlaaDoor

/- CivilBack walked: each day, each minute has one name, and names rise as minutes do. -/
import Derived.Test.YtbohogaopfkmlaaDoorCivTxt
import Derived.Test.YtbohogaopfkmlaaDoorCivN
namespace Go.Proofs.YtbohogaopfkmlaaDoor
open Go.RowKit

theorem bl_lt {a b : UInt8} (x y : List UInt8) (h : a.toNat < b.toNat) : Op.bytesLess (a :: x) (b :: y) = true := by
  simp only [Op.bytesLess, Bool.or_eq_true, decide_eq_true_eq]
  exact .inl (UInt8.lt_iff_toNat_lt.2 h)
theorem bl_same (a : UInt8) (x y : List UInt8) : Op.bytesLess (a :: x) (a :: y) = Op.bytesLess x y := by
  simp [Op.bytesLess]
theorem bl_app (p x y : List UInt8) : Op.bytesLess (p ++ x) (p ++ y) = Op.bytesLess x y := by
  induction p with
  | nil => rfl
  | cons a p ih => rw [List.cons_append, List.cons_append, bl_same, ih]
theorem bl_irrefl (x : List UInt8) : Op.bytesLess x x = false := by
  induction x with
  | nil => rfl
  | cons a x ih => rw [bl_same, ih]
theorem bl_asym : ∀ (x y : List UInt8), Op.bytesLess x y = true → Op.bytesLess y x = false
  | [], [], h => by simp [Op.bytesLess] at h
  | _ :: _, [], h => by simp [Op.bytesLess] at h
  | [], _ :: _, _ => by simp [Op.bytesLess]
  | a :: x, b :: y, h => by
    simp only [Op.bytesLess, Bool.or_eq_true, decide_eq_true_eq, Bool.and_eq_true, beq_iff_eq] at h
    rcases h with h | ⟨rfl, h⟩
    · have h' := UInt8.lt_iff_toNat_lt.1 h
      simp only [Op.bytesLess, Bool.or_eq_false_iff, decide_eq_false_iff_not, Bool.and_eq_false_iff]
      refine ⟨fun g => ?_, .inl ?_⟩
      · have := UInt8.lt_iff_toNat_lt.1 g; omega
      · rw [beq_eq_false_iff_ne]; rintro rfl; omega
    · rw [bl_same]; exact bl_asym x y h
theorem bl_two (u v : Nat) (x y : List UInt8) (hv : v < 100) (h : u < v) : Op.bytesLess (two u ++ x) (two v ++ y) = true := by
  unfold two
  simp only [List.cons_append, List.nil_append]
  by_cases e : u / 10 = v / 10
  · rw [e, bl_same]
    exact bl_lt _ _ (by rw [dg_nat _ (by omega), dg_nat _ (by omega)]; omega)
  · exact bl_lt _ _ (by rw [dg_nat _ (by omega), dg_nat _ (by omega)]; omega)

theorem lex (x y : Int) (h1 : 0 ≤ x) (h2 : y < 52596000) (h : x < y) :
    Cal.yOf (x / 1440) < Cal.yOf (y / 1440) ∨ (Cal.yOf (x / 1440) = Cal.yOf (y / 1440) ∧ (Cal.mOf (x / 1440) < Cal.mOf (y / 1440) ∨ (Cal.mOf (x / 1440) = Cal.mOf (y / 1440) ∧ (Cal.dOf (x / 1440) < Cal.dOf (y / 1440) ∨
      (Cal.dOf (x / 1440) = Cal.dOf (y / 1440) ∧ (x % 1440 / 60 < y % 1440 / 60 ∨ (x % 1440 / 60 = y % 1440 / 60 ∧ x % 60 < y % 60))))))) := by
  by_cases e : x / 1440 = y / 1440
  · rw [e]
    exact .inr ⟨rfl, .inr ⟨rfl, .inr ⟨rfl, by omega⟩⟩⟩
  · have hx1 : 0 ≤ x / 1440 := by omega
    have hx2 : x / 1440 < 36525 := by omega
    have hy1 : 0 ≤ y / 1440 := by omega
    have hy2 : y / 1440 < 36525 := by omega
    have hlt : x / 1440 < y / 1440 := by omega
    generalize x / 1440 = a at *
    generalize y / 1440 = b at *
    have ya := Cal.yOf_bd a hx1 hx2
    have yb := Cal.yOf_bd b hy1 hy2
    have ia := Cal.of_is a hx1 hx2
    have ib := Cal.of_is b hy1 hy2
    have na := Cal.of_num a
    have nb := Cal.of_num b
    have ma := Cal.mOf_bd a
    have mb := Cal.mOf_bd b
    have la := Cal.num_lt _ _ _ ya.1 ya.2 ia
    have lb := Cal.num_lt _ _ _ yb.1 yb.2 ib
    rw [na] at la
    rw [nb] at lb
    rw [Cal.isB_iff] at ia ib
    rcases Int.lt_trichotomy (Cal.yOf a) (Cal.yOf b) with g | g | g
    · exact .inl g
    · refine .inr ⟨g, ?_⟩
      rw [g] at na ia
      unfold Cal.num at na nb
      rcases Int.lt_trichotomy (Cal.mOf a) (Cal.mOf b) with k | k | k
      · exact .inl k
      · refine .inr ⟨k, .inl ?_⟩
        rw [k] at na
        omega
      · have := Cal.cum_le (Cal.yOf b) (Cal.mOf b + 1) (Cal.mOf a) (by omega) (by omega) (by omega)
        have := Cal.cum_succ (Cal.yOf b) (Cal.mOf b) mb.1 mb.2
        omega
    · have := Cal.yst_le (Cal.yOf b + 1) (Cal.yOf a) (by omega)
      omega

theorem txt_right (y m d h mi : Int) : txt y m d h mi = [50, 48] ++ (two (y - 2000).toNat ++ (two m.toNat ++ (two d.toNat ++ ([84] ++ (two h.toNat ++ (two mi.toNat ++ [48, 48])))))) := rfl
theorem text_less (x y : Int) (h1 : 0 ≤ x) (h2 : y < 52596000) (h : x < y) : Op.bytesLess (textOf x) (textOf y) = true := by
  have fx := fields_of x h1 (by omega)
  have fy := fields_of y (by omega) h2
  rw [textOf_in x h1 (by omega), textOf_in y (by omega) h2, txt_right, txt_right, bl_app]
  have hl := lex x y h1 h2 h
  obtain ⟨y1, y2, m1, m2, d1, d2, g1, g2, i1, i2⟩ := fx
  obtain ⟨y1', y2', m1', m2', d1', d2', g1', g2', i1', i2'⟩ := fy
  rcases hl with k | ⟨e, hl⟩
  · exact bl_two _ _ _ _ (by omega) (by omega)
  rw [e, bl_app]
  rcases hl with k | ⟨e, hl⟩
  · exact bl_two _ _ _ _ (by omega) (by omega)
  rw [e, bl_app]
  rcases hl with k | ⟨e, hl⟩
  · exact bl_two _ _ _ _ (by omega) (by omega)
  rw [e, bl_app, bl_app]
  rcases hl with k | ⟨e, k⟩
  · exact bl_two _ _ _ _ (by omega) (by omega)
  rw [e, bl_app]
  exact bl_two _ _ _ _ (by omega) (by omega)
theorem text_order (x y : Int) (h1 : 0 ≤ x) (h2 : x < 52596000) (g1 : 0 ≤ y) (g2 : y < 52596000) : Op.bytesLess (textOf x) (textOf y) = decide (x < y) := by
  rcases Int.lt_trichotomy x y with k | k | k
  · rw [text_less x y h1 g2 k, decide_eq_true k]
  · subst k; rw [bl_irrefl, decide_eq_false (by omega)]
  · rw [bl_asym _ _ (text_less y x g1 h2 k), decide_eq_false (by omega)]

theorem str_toList (l : List UInt8) : (str l).toList = l := by rw [ByteArray.toList_eq]; simp [str]

theorem back_clock (x y m d h i : Int) (w : World) (h1 : 0 ≤ x) (h2 : x < 52596000) (e : Cal.yOf (x / 1440) = y ∧ Cal.mOf (x / 1440) = m ∧ Cal.dOf (x / 1440) = d ∧ x % 1440 / 60 = h ∧ x % 60 = i) :
    Calls Tryd.prog 18 #[.int .i64 x] w fun e w' => e = .returned (.tuple #[.agg #[.int .i64 y, .int .i64 m, .int .i64 d], .int .i64 h, .int .i64 i, .int .i64 0]) ∧ Below w.heap.size w w' := by
  obtain ⟨rfl, rfl, rfl, rfl, rfl⟩ := e
  exact Clock_yes x w h1 h2
theorem minute_is (y m d h i a c : Int) (w : World) (e : minE y m d h i = (a, c)) :
    Calls Tryd.prog 16 #[.agg #[.int .i64 y, .int .i64 m, .int .i64 d], .int .i64 h, .int .i64 i] w fun e w' => e = .returned (.tuple #[.int .i64 a, .int .i64 c]) ∧ Below w.heap.size w w' := by
  have := Minute_any y m d h i w
  rw [e] at this
  exact this
theorem parse_is (l : List UInt8) (a c : Int) (w : World) (e : parseE l = (a, c)) :
    Calls Tryd.prog 29 #[.string (str l)] w fun e w' => e = .returned (.tuple #[.int .i64 a, .int .i64 c]) ∧ Below w.heap.size w w' := by
  have := Parse_any (str l) w
  rw [str_list, e] at this
  exact this
theorem back_keep {W W' : World} (hb : Below W.heap.size W W') {b o : Nat} {v : Value} (h : W.cell? ⟨b, o, none⟩ = some v) (hl : b < W.heap.size) : W'.cell? ⟨b, o, none⟩ = some v := by
  rw [(bcell hb).1 b o hl, h]

set_option maxRecDepth 100000 in
set_option maxHeartbeats 2000000 in
theorem back_core (a b x z y m d h i : Int) (w : World) (ht : Tab w) (a1 : 0 ≤ a) (a2 : a ≤ 4294967295) (b1 : 0 ≤ b) (b2 : b ≤ 4294967295) (hx : a % 52596000 = x) (hz : b % 52596000 = z) (x1 : 0 ≤ x) (x2 : x < 52596000)
    (hcl : Cal.yOf (x / 1440) = y ∧ Cal.mOf (x / 1440) = m ∧ Cal.dOf (x / 1440) = d ∧ x % 1440 / 60 = h ∧ x % 60 = i) (hmi : minE y m d h i = (x, 0)) (hpa : parseE (textOf x) = (x, 0)) (hnu : numE y m d = (x / 1440, 0)) (his : Cal.isB y m d = true)
    (B : Bool) (hor : Op.bytesLess (textOf x) (textOf z) = B) (hdec : decide (x < z) = B) :
    Calls Tryd.prog 5 #[.int .u32 a, .int .u32 b] w fun e w' => e = .returned (.bool true) ∧ Below w.heap.size w w' := by
  have HT := hide ht
  have HX := hide hx
  have HZ := hide hz
  have HC := hide hcl
  have HM := hide hmi
  have HP := hide hpa
  have HN := hide hnu
  have HI := hide his
  have HO := hide hor
  have HDE := hide hdec
  have ax : 0 ≤ a % 52596000 ∧ a % 52596000 < 52596000 := by omega
  have bz : 0 ≤ b % 52596000 ∧ b % 52596000 < 52596000 := by omega
  clear ht hx hz hcl hmi hpa hnu his hor hdec
  go_enter Tryd.func5, Tryd.ntmps5
  go_wp2_with fail
  refine (known_any _ HT.out).mono ?_
  rintro e w1 ⟨rfl, hb1⟩
  go_wp2_with fail
  rw [HX.out, HZ.out]
  refine (back_clock x y m d h i _ x1 x2 HC.out).mono ?_
  rintro e w2 ⟨rfl, hb2⟩
  go_wp2_with fail
  refine (minute_is y m d h i x 0 _ HM.out).mono ?_
  rintro e w3 ⟨rfl, hb3⟩
  have HT3 := hide ((((HT.out.below hb1 (Nat.le_refl _)).below hb2 (Nat.le_refl _)).alloc _).below hb3 (Nat.le_refl _))
  go_wp2_with fail
  refine (Text_any x _ HT3.out).mono ?_
  rintro e w4 ⟨rfl, hb4⟩
  go_wp2_with fail
  refine (parse_is (textOf x) x 0 _ HP.out).mono ?_
  rintro e w5 ⟨rfl, hb5⟩
  have s3 : w2.heap.size < w3.heap.size := by have := hb3.size; simp at this; omega
  have s4 := hb4.size
  have s5 := hb5.size
  have c0 : w5.cell? ⟨w2.heap.size, 0, none⟩ = some (.int .i64 y) := back_keep hb5 (back_keep hb4 (back_keep hb3 (by simp) (by simp)) s3) (by omega)
  have c1 : w5.cell? ⟨w2.heap.size, 1, none⟩ = some (.int .i64 m) := back_keep hb5 (back_keep hb4 (back_keep hb3 (by simp) (by simp)) s3) (by omega)
  have c2 : w5.cell? ⟨w2.heap.size, 2, none⟩ = some (.int .i64 d) := back_keep hb5 (back_keep hb4 (back_keep hb3 (by simp) (by simp)) s3) (by omega)
  go_wp2_with fail
  refine (number_is y m d (x / 1440) 0 _ HN.out).mono ?_
  rintro e w6 ⟨rfl, hb6⟩
  have s6 := hb6.size
  have HT6 := hide (((HT3.out.below hb4 (Nat.le_refl _)).below hb5 (Nat.le_refl _)).below hb6 (Nat.le_refl _))
  go_wp2_with fail
  refine (Text_any x _ HT6.out).mono ?_
  rintro e w7 ⟨rfl, hb7⟩
  go_wp2_with fail
  refine (Text_any z _ (HT6.out.below hb7 (Nat.le_refl _))).mono ?_
  rintro e w8 ⟨rfl, hb8⟩
  have s7 := hb7.size
  have s8 := hb8.size
  have e0 : w8.cell? ⟨w2.heap.size, 0, none⟩ = some (.int .i64 y) := back_keep hb8 (back_keep hb7 (back_keep hb6 c0 (by omega)) (by omega)) (by omega)
  have e1 : w8.cell? ⟨w2.heap.size, 1, none⟩ = some (.int .i64 m) := back_keep hb8 (back_keep hb7 (back_keep hb6 c1 (by omega)) (by omega)) (by omega)
  have e2 : w8.cell? ⟨w2.heap.size, 2, none⟩ = some (.int .i64 d) := back_keep hb8 (back_keep hb7 (back_keep hb6 c2 (by omega)) (by omega)) (by omega)
  have q1 := str_toList (textOf x)
  have q2 := str_toList (textOf z)
  have q3 := HO.out
  have q4 := HDE.out
  go_wp2_with fail
  refine (is_at true y m d _ HI.out).mono ?_
  rintro e w9 ⟨rfl, hb9⟩
  go_wp2_with fail
  go_ret
  have b2' : Below w.heap.size w w2 := hb1.trans (hb2.mono hb1.size)
  have sz2 := b2'.size
  have b3' : Below w.heap.size w w3 := (b2'.alloc sz2 _).trans (hb3.mono (by simp; omega))
  exact ⟨rfl, (((((b3'.trans (hb4.mono (by omega))).trans (hb5.mono (by omega))).trans (hb6.mono (by omega))).trans (hb7.mono (by omega))).trans (hb8.mono (by omega))).trans (hb9.mono (by omega))⟩

theorem back_walk (a b : Int) (w : World) (ht : Tab w) (a1 : 0 ≤ a) (a2 : a ≤ 4294967295) (b1 : 0 ≤ b) (b2 : b ≤ 4294967295) :
    Calls Tryd.prog 5 #[.int .u32 a, .int .u32 b] w fun e w' => e = .returned (.bool true) ∧ Below w.heap.size w w' := by
  generalize hx : a % 52596000 = x
  generalize hz : b % 52596000 = z
  have x1 : 0 ≤ x := by omega
  have x2 : x < 52596000 := by omega
  exact back_core a b x z _ _ _ _ _ w ht a1 a2 b1 b2 hx hz x1 x2 ⟨rfl, rfl, rfl, rfl, rfl⟩ (minE_of x x1 x2) (parse_text x x1 x2) (numE_of (x / 1440) (by omega) (by omega)) (Cal.of_is (x / 1440) (by omega) (by omega)) _ (text_order x z x1 x2 (by omega) (by omega)) rfl

end Go.Proofs.YtbohogaopfkmlaaDoor

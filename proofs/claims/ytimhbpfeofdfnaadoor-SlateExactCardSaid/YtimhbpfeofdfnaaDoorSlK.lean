/- known of hostelrylaw16 answers true. Written by recipes/sl3.py. -/
import Derived.Test.YtimhbpfeofdfnaaDoorSlQ
namespace Go.Proofs.YtimhbpfeofdfnaaDoor
open Go.RowKit Sl

def k0 : St := newS []
def k1 : St := writeS k0 [[97, 98], [99]]
def k2 : St := limitS k1 3
def k3 : St := writeS k2 [[97, 98, 99, 100]]
def k4 : St := riseS k3
theorem kn0 : writeN k0 [[97, 98], [99]] = 0 := by decide
theorem kt1 : k1.t = [97, 98, 10, 99, 10] := by decide
theorem kl1 : linesL k1.t = [[97, 98], [99]] := by decide
theorem kn2 : writeN k2 [[97, 98, 99, 100]] = 19 := by decide
theorem kt3 : k3.t = [97, 98, 10, 99, 10, 97, 98, 99] := by decide
theorem ko3 : k3.off = true := by decide
theorem kn3 : writeN k3 [] = 19 := by decide
theorem kt4 : k4.t = [97, 98, 10, 99, 10] := by decide
theorem ko4 : k4.off = false := by decide
theorem kn5 : writeN k2 [[120, 121]] = 0 := by decide
theorem kn6 : writeN (writeS k2 [[120, 121]]) [[97, 10]] = 14 := by decide
theorem klen : k0.t.length = 0 ∧ k1.t.length = 5 ∧ k2.t.length = 5 ∧ k3.t.length = 8 ∧ k4.t.length = 5 ∧ (writeS k2 [[120, 121]]).t.length = 8 := by decide
theorem kleft : k0.left = 0 ∧ k1.left = 0 ∧ k2.left = 3 ∧ k3.left = 0 ∧ k4.left = 0 ∧ (writeS k2 [[120, 121]]).left = 0 := by decide

set_option maxRecDepth 100000 in
set_option maxHeartbeats 3200000 in
theorem known_any (w : World) (he : Env w) : Calls Tryd.prog 6 #[] w (Ans w (.bool true)) := by
  have HE := hide he
  clear he
  go_enter Tryd.func6, Tryd.ntmps6
  go_wp2_with fail
  refine (new_any w).mono ?_
  rintro e x1 hm1
  obtain ⟨X1, g1, rfl, ho1, hb1, hx1, hg1⟩ := hm1.one (start w)
  have HO1 := hide ho1
  clear hm1 ho1 hx1 hg1 hb1
  go_wp2_with fail
  have HP := hide (rowS_two x1 [97, 98] [99])
  have HF := hide (off_new HO1.out.at_)
  have HK2 := hide (HO1.out.keep (more (start x1) (.cells #[.string (str [97, 98]), .string (str [99])] 9)))
  refine (sWrite_any X1 g1 k0 _ _ _ [[97, 98], [99]] _ HK2.out.at_ HP.out (fun _ => HF.out) rfl (by simp) (by decide) (by decide)).mono ?_
  rintro e y3 ⟨rfl, ht3⟩
  obtain ⟨h3, hg3, ho3, hc3⟩ := HK2.out.turn ht3
  have HO3 := hide ho3
  rw [show writeN k0 [[97, 98], [99]] = 0 from kn0]
  clear ho3 hc3 hg3 ht3
  go_wp2_with fail
  refine (sLines_any X1 h3 k1 _ HO3.out.at_ (HE.out.keep HO3.out.b) (by decide)).mono ?_
  rintro e z4 ⟨A4, c4, rfl, hr4, hc4, hb4⟩
  rw [show linesL k1.t = [[97, 98], [99]] from kl1] at hr4 ⊢
  have HK5 := hide (HO3.out.keep hb4)
  have HR4 := hide hr4
  clear hr4 hc4 hb4
  go_wp2_with fail
  have HP2 := hide (rowS_two z4 [97, 98] [99])
  have HK6 := hide (HK5.out.keep (more (start z4) (.cells #[.string (str [97, 98]), .string (str [99])] 9)))
  have HK7 := hide (HR4.out.keep (more (start z4) (.cells #[.string (str [97, 98]), .string (str [99])] 9)))
  refine (same_any A4 _ _ _ _ _ [[97, 98], [99]] [[97, 98], [99]] _ HK7.out HP2.out rfl rfl (by decide)).mono ?_
  rintro e z8 ⟨rfl, hb8⟩
  rw [decide_eq_true rfl]
  have HK9 := hide (HK6.out.keep hb8)
  have HK10 := hide (HK7.out.keep hb8)
  clear hb8
  go_wp2_with fail
  refine (limit_any X1 h3 k1 3 _ HK9.out.at_).mono ?_
  rintro e y11 ⟨rfl, h1_11, hc11⟩
  have ho11 := HK9.out.chg h1_11 hc11
  have hg11 : h3 = h3 ∨ z8.heap.size ≤ h3 := Or.inl rfl
  have HO11 := hide ho11
  clear ho11 hc11 hg11
  clear h1_11
  go_wp2_with fail
  refine (copy_any X1 h3 k2 _ HO11.out.at_ (by decide)).mono ?_
  rintro e x12 hm12
  obtain ⟨X12, g12, rfl, ho12, hb12, hx12, hg12⟩ := hm12.one HO11.out.b
  have HA12s := hide (apart_new HO11.out hx12 hg12)
  have HO12 := hide ho12
  have HK13 := hide (HO11.out.keep hb12)
  clear hm12 ho12 hx12 hg12 hb12
  go_wp2_with fail
  have HP3 := hide (rowS_one x12 [97, 98, 99, 100])
  have HF3 := hide (off_new HK13.out.at_)
  have HK14 := hide (HK13.out.keep (more (start x12) (.cells #[.string (str [97, 98, 99, 100])] 9)))
  have HK15 := hide (HO12.out.keep (more (start x12) (.cells #[.string (str [97, 98, 99, 100])] 9)))
  refine (sWrite_any X1 h3 k2 _ _ _ [[97, 98, 99, 100]] _ HK14.out.at_ HP3.out (fun _ => HF3.out) rfl (by simp) (by decide) (by decide)).mono ?_
  rintro e y16 ⟨rfl, ht16⟩
  obtain ⟨h16, hg16, ho16, hc16⟩ := HK14.out.turn ht16
  have HB16c := hide (HK15.out.other hc16 HA12s.out HK14.out.x HK14.out.y hg16)
  have HM16c := hide HB16c.out.1
  have HO16 := hide ho16
  rw [show writeN k2 [[97, 98, 99, 100]] = 19 from kn2]
  clear ho16 hc16 hg16 ht16
  go_wp2_with fail
  refine (sWrite_any X1 h16 k3 _ _ _ [] _ HO16.out.at_ (RowS.nil _ _) (fun _ => off_nil _ _) rfl (by simp) (by decide) (by decide)).mono ?_
  rintro e y17 ⟨rfl, ht17⟩
  obtain ⟨h17, hg17, ho17, hc17⟩ := HO16.out.turn ht17
  have HB17c := hide (HM16c.out.other hc17 HB16c.out.2 HO16.out.x HO16.out.y hg17)
  have HM17c := hide HB17c.out.1
  have HO17 := hide ho17
  rw [show writeN k3 [] = 19 from kn3]
  clear ho17 hc17 hg17 ht17
  have q0 : ((str [97, 98, 10, 99, 10, 97, 98, 99]).toList == ([97, 98, 10, 99, 10, 97, 98, 99] : List UInt8)) = true := by rw [str_tl]; rfl
  have q1 : ((str [97, 98, 10, 99, 10]).toList == ([97, 98, 10, 99, 10] : List UInt8)) = true := by rw [str_tl]; rfl
  have q2 : ((str [113, 10]).toList == ([113, 10] : List UInt8)) = true := by rw [str_tl]; rfl
  go_wp2_with fail
  refine (text_any X1 h17 k3 _ HO17.out.at_).mono ?_
  rintro e z18 ⟨rfl, rfl⟩
  rw [show k3.t = [97, 98, 10, 99, 10, 97, 98, 99] from kt3]
  go_wp2_with fail
  refine (on_any X1 h17 k3 _ HO17.out.at_).mono ?_
  rintro e z19 ⟨rfl, rfl⟩
  rw [show k3.off = true from ko3]
  go_wp2_with fail
  refine (rise_any X1 h17 k3 _ HO17.out.at_ (by decide)).mono ?_
  rintro e y20 ⟨rfl, h1_20, hc20⟩
  have ho20 := HO17.out.chg h1_20 hc20
  have hg20 : h17 = h17 ∨ z19.heap.size ≤ h17 := Or.inl rfl
  have HB20c := hide (HM17c.out.other hc20 HB17c.out.2 HO17.out.x HO17.out.y hg20)
  have HM20c := hide HB20c.out.1
  have HO20 := hide ho20
  clear ho20 hc20 hg20
  clear h1_20
  go_wp2_with fail
  refine (text_any X1 h17 k4 _ HO20.out.at_).mono ?_
  rintro e z21 ⟨rfl, rfl⟩
  rw [show k4.t = [97, 98, 10, 99, 10] from kt4]
  go_wp2_with fail
  refine (on_any X1 h17 k4 _ HO20.out.at_).mono ?_
  rintro e z22 ⟨rfl, rfl⟩
  rw [show k4.off = false from ko4]
  go_wp2_with fail
  have HP4 := hide (rowS_one z22 [120, 121])
  have HF4 := hide (off_new HM20c.out.at_)
  have HK23 := hide (HO20.out.keep (more (start z22) (.cells #[.string (str [120, 121])] 9)))
  have HK24 := hide (HM20c.out.keep (more (start z22) (.cells #[.string (str [120, 121])] 9)))
  refine (sWrite_any X12 g12 k2 _ _ _ [[120, 121]] _ HK24.out.at_ HP4.out (fun _ => HF4.out) rfl (by simp) (by decide) (by decide)).mono ?_
  rintro e y25 ⟨rfl, ht25⟩
  obtain ⟨h25, hg25, ho25, hc25⟩ := HK24.out.turn ht25
  have HB25s := hide (HK23.out.other hc25 HB20c.out.2.swap HK24.out.x HK24.out.y hg25)
  have HM25s := hide HB25s.out.1
  have HO25 := hide ho25
  rw [show writeN k2 [[120, 121]] = 0 from kn5]
  clear ho25 hc25 hg25 ht25
  go_wp2_with fail
  have HP5 := hide (rowS_one y25 [97, 10])
  have HF5 := hide (off_new HO25.out.at_)
  have HK26 := hide (HM25s.out.keep (more (start y25) (.cells #[.string (str [97, 10])] 9)))
  have HK27 := hide (HO25.out.keep (more (start y25) (.cells #[.string (str [97, 10])] 9)))
  refine (sWrite_any X12 h25 (writeS k2 [[120, 121]]) _ _ _ [[97, 10]] _ HK27.out.at_ HP5.out (fun _ => HF5.out) rfl (by simp) (by decide) (by decide)).mono ?_
  rintro e y28 ⟨rfl, ht28⟩
  obtain ⟨h28, hg28, ho28, hc28⟩ := HK27.out.turn ht28
  have HB28s := hide (HK26.out.other hc28 HB25s.out.2 HK27.out.x HK27.out.y hg28)
  have HM28s := hide HB28s.out.1
  have HO28 := hide ho28
  rw [show writeN (writeS k2 [[120, 121]]) [[97, 10]] = 14 from kn6]
  clear ho28 hc28 hg28 ht28
  go_wp2_with fail
  refine (of_any [113, 10] _ (by decide)).mono ?_
  rintro e x29 hm29
  obtain ⟨X29, g29, rfl, ho29, hb29, hx29, hg29⟩ := hm29.one HM28s.out.b
  have HA29s := hide (apart_new HM28s.out hx29 hg29)
  have HA29c := hide (apart_new HO28.out hx29 hg29)
  have HO29 := hide ho29
  have HK30 := hide (HM28s.out.keep hb29)
  have HK31 := hide (HO28.out.keep hb29)
  clear hm29 ho29 hx29 hg29 hb29
  go_wp2_with fail
  refine (text_any X29 g29 (newS [113, 10]) _ HO29.out.at_).mono ?_
  rintro e z32 ⟨rfl, rfl⟩
  rw [show (newS [113, 10]).t = [113, 10] from rfl]
  go_wp2_with fail
  go_ret
  exact ⟨rfl, HK30.out.b⟩
end Go.Proofs.YtimhbpfeofdfnaaDoor

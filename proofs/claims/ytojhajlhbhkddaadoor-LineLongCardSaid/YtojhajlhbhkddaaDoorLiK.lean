/- What the statements of lines share: known. -/
import Derived.Test.YtojhajlhbhkddaaDoorLiC
namespace Go.Proofs.YtojhajlhbhkddaaDoor
open Go.RowKit Rul Rt Fo Li Go.Sort

theorem lk1 : lineE (str [98, 101, 103, 105, 110, 58, 118, 101, 118, 101, 110, 116, 58, 120]).data.toList = some ([66, 69, 71, 73, 78], [118, 101, 118, 101, 110, 116, 58, 120]) := by rw [str_list]; decide +kernel
theorem lk2 : lineE (str [98, 101, 103, 105, 110]).data.toList = none := by rw [str_list]; decide +kernel
theorem lk3 : foldE ((str [65]).data.toList ++ 58 :: (str [98]).data.toList) = [65, 58, 98] := by rw [str_list, str_list]; exact foldE_short _ (by decide)
theorem lk4 : nameE (str [88, 45, 82, 79, 79, 77, 83]).data.toList = true := by rw [str_list]; decide +kernel
theorem lk5 : nameE (str [120]).data.toList = false := by rw [str_list]; decide +kernel

set_option maxRecDepth 100000 in
set_option maxHeartbeats 1000000 in
theorem lknown_any (w : World) (he : Env w) : Calls Tryd.prog 4 #[] w (Ans w (.bool true)) := by
  have H1 := hide (split_at _ _ w he (by decide) lk1)
  have H2 := hide (fun w he => split_at _ _ w he (by decide) lk2)
  have H3 := hide (fun w => join_at _ _ _ w (by decide) (by decide) lk3)
  have H4 := hide (fun w => name_at _ _ w (by decide) lk4)
  have H5 := hide (fun w => name_at _ _ w (by decide) lk5)
  have HE := hide he
  simp only [splA] at H1 H2
  have q1 : ((str [66, 69, 71, 73, 78]).toList == ([66, 69, 71, 73, 78] : List UInt8)) = true := by rw [str_tl]; rfl
  have q2 : ((str [118, 101, 118, 101, 110, 116, 58, 120]).toList == ([118, 101, 118, 101, 110, 116, 58, 120] : List UInt8)) = true := by rw [str_tl]; rfl
  have q3 : ((str [65, 58, 98]).toList == ([65, 58, 98] : List UInt8)) = true := by rw [str_tl]; rfl
  clear he
  go_enter Tryd.func4, Tryd.ntmps4
  go_wp2_with fail
  refine (H1.out).mono ?_
  rintro e w1 ⟨rfl, hb1⟩
  have HB := hide hb1
  clear hb1
  go_wp2_with fail
  refine (H2.out _ (HE.out.keep HB.out)).mono ?_
  rintro e w2 ⟨rfl, hb2⟩
  replace HB := hide (andthen HB.out hb2)
  clear hb2
  go_wp2_with fail
  refine (H3.out _).mono ?_
  rintro e w3 ⟨rfl, hb3⟩
  replace HB := hide (andthen HB.out hb3)
  clear hb3
  go_wp2_with fail
  refine (H4.out _).mono ?_
  rintro e w4 ⟨rfl, hb4⟩
  replace HB := hide (andthen HB.out hb4)
  clear hb4
  go_wp2_with fail
  refine (H5.out _).mono ?_
  rintro e w5 ⟨rfl, hb5⟩
  replace HB := hide (andthen HB.out hb5)
  clear hb5
  go_wp2_with fail
  go_ret
  exact ⟨rfl, HB.out⟩

end Go.Proofs.YtojhajlhbhkddaaDoor

/- ScribeReads. -/
import Derived.Test.YtlmdceeeahnkcaaGreatDoorZQ13
namespace Go.Proofs.YtlmdceeeahnkcaaGreatDoor
open Go.RowKit Rul Rt Go.Sort Sc De Cl

set_option maxRecDepth 100000 in
set_option maxHeartbeats 6400000 in
theorem rs15_any (U : ByteArray) (w : World) (he : Env w) : Calls Tryz.prog 5 #[.string U] w (Ans w (.bool true)) := by
  have HK := hide (known_any w he)
  have HE := hide he
  clear he
  by_cases hz : U.size ≤ 9000
  · have hz1 : (U.size : Int) ≤ 9000 := by omega
    obtain ⟨s, rfl⟩ : ∃ s, U = str s := ⟨U.data.toList, str_of U⟩
    have hs : s.length ≤ 9000 := by rw [str_size] at hz; exact hz
    have HR := hide (fun w he => Read_any s w he (by omega))
    have q1 := str_tl s
    cases hr : readE s with
    | none =>
      have HSM := hide (fun w => rsameD_c d0 d0 mD mD true w (dl_nil w) (dl_nil w) (sameD_self _))
      rw [hr] at HR
      clear hr hs hz
      go_enter Tryz.func5, Tryz.ntmps5
      go_wp2_with fail
      refine HK.out.mono ?_
      rintro e w1 ⟨rfl, hb⟩
      have HB := hide hb
      replace HE := hide (HE.out.keep hb)
      clear hb
      go_wp2_with fail
      refine (HR.out _ HE.out).mono ?_
      rintro e w2 ⟨hb, rfl⟩
      replace HB := hide (andthen HB.out hb)
      have R := hide (range_new w2 (dC d0 mD) 34)
      replace HB := hide (more HB.out (.cells (dC d0 mD).toArray 34))
      clear hb
      go_wp2_with (first | refine load_deed rfl _ rfl _ _ rfl _ R.out rfl ?_ | refine store_new rfl _ _ _ rfl w2 _ (dC d0 mD).toArray rfl rfl rfl (by kernel_rfl) (by kernel_rfl) (by kernel_rfl) ?_ | refine build_at rfl 34 _ rfl (dC d0 mD).toArray (by kernel_rfl) ?_)
      refine (HSM.out _).mono ?_
      rintro e w3 ⟨rfl, hb⟩
      replace HB := hide (andthen HB.out hb)
      clear hb
      go_wp2_with fail
      go_ret
      exact ⟨rfl, HB.out⟩
    | some d =>
      obtain ⟨hd, hl⟩ := read_some hr
      have HL := hide (fun m w he h => line_any d m w he h)
      rw [lineV_yes hd, hl] at HL
      have HI := hide (fun m w h => rdIs_c d m true w h hd)
      rw [hr] at HR
      have q2 : (s == s) = true := by simp
      clear hr hs hz hd hl
      go_enter Tryz.func5, Tryz.ntmps5
      go_wp2_with fail
      refine HK.out.mono ?_
      rintro e w1 ⟨rfl, hb⟩
      have HB := hide hb
      replace HE := hide (HE.out.keep hb)
      clear hb
      go_wp2_with fail
      refine (HR.out _ HE.out).mono ?_
      rintro e w2 ⟨hb, m, rfl, hd⟩
      have R := hide (range_new w2 (dC d m) 34)
      have hb2 := more (start w2) (.cells (dC d m).toArray 34)
      replace HB := hide (andthen HB.out (andthen hb hb2))
      replace HE := hide (HE.out.keep (andthen hb hb2))
      have HD := hide (hd.keep hb2)
      clear hb hb2 hd
      go_wp2_with (first | refine load_deed rfl _ rfl _ _ rfl _ R.out rfl ?_ | refine store_new rfl _ _ _ rfl w2 _ (dC d m).toArray rfl rfl rfl (by kernel_rfl) (by kernel_rfl) (by kernel_rfl) ?_)
      refine (HL.out _ _ HE.out HD.out).mono ?_
      rintro e w3 ⟨rfl, hb⟩
      replace HB := hide (andthen HB.out hb)
      replace R := hide (range_keep R.out hb)
      replace HD := hide (HD.out.keep hb)
      clear hb
      go_wp2_with (refine load_deed rfl _ rfl _ _ rfl _ R.out rfl ?_)
      refine (HI.out _ _ HD.out).mono ?_
      rintro e w4 ⟨rfl, hb⟩
      replace HB := hide (andthen HB.out hb)
      clear hb
      go_wp2_with fail
      go_ret
      exact ⟨rfl, HB.out⟩
  · have hz1 : ¬ (U.size : Int) ≤ 9000 := by omega
    clear hz
    go_enter Tryz.func5, Tryz.ntmps5
    go_wp2_with fail
    refine HK.out.mono ?_
    rintro e w1 ⟨rfl, hb⟩
    have HB := hide hb
    clear hb
    go_wp2_with fail
    go_ret
    exact ⟨rfl, HB.out⟩
end Go.Proofs.YtlmdceeeahnkcaaGreatDoor

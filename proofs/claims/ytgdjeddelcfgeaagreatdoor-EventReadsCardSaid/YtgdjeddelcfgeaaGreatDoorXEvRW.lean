/- EventReads walked: of every lines the event, how many lines it has, or which can't be. -/
import Derived.Test.YtgdjeddelcfgeaaGreatDoorXEvRX
import Derived.Test.YtgdjeddelcfgeaaGreatDoorXEvKo
import Derived.Test.YtgdjeddelcfgeaaGreatDoorXW17
namespace Go.Proofs.YtgdjeddelcfgeaaGreatDoor
open Go.RowKit Rul Rt Go.Sort

def zeroE : Ev.E:=⟨[],[],0,0,[],⟨0,0,0,0,[],[],[]⟩,[]⟩
theorem evL_zero (w : World) : EvL w zeroE memB:=⟨fun h => absurd rfl h,by decide,lies_once _,fun h => absurd rfl h,by decide,by decide,by decide⟩
theorem same_zero (w : World) : Calls Tryz.prog 14 #[noEvent,noEvent] w (Ans w (.bool true)):=by
 have h:=ans_is (rSame_any zeroE zeroE memB memB w (evL_zero w) (evL_zero w)) (Ev.sameE_self zeroE)
 exact h
set_option maxRecDepth 100000 in
set_option maxHeartbeats 4000000 in
theorem reads_any (A : Option Addr) (n c : Nat) (l : List Tx) (w : World) (he : EnvE w) (hl : RowS w A l) (hn : n = l.length) (hm : l.length ≤ maxLen) :
  Calls Tryz.prog 4 #[.slice A n c] w (Ans w (.bool true)):=by
 subst hn
 have HE:=hide he
 have HL:=hide hl
 clear he hl
 cases hf : fewL l with
 | false =>
  have HF:=hide hf
  clear hf
  go_enter Tryz.func4,Tryz.ntmps4
  go_wp2_with fail
  refine (known_any _ HE.out).mono ?_
  rintro _ w1 ⟨rfl,hb⟩
  have HB:=hide hb
  clear hb
  go_wp2_with fail
  refine (ans_is (fewL_any A l.length c l _ (HL.out.keep HB.out) rfl hm) HF.out).mono ?_
  rintro _ w2 ⟨rfl,hb⟩
  replace HB:=hide (andthen HB.out hb)
  clear hb
  go_wp2_with fail
  go_ret
  exact ⟨rfl,HB.out⟩
 | true =>
  have HF:=hide hf
  obtain ⟨hall,hlen⟩:=(fewL_iff l).1 hf
  clear hf
  obtain ⟨⟨o,k⟩,hP⟩ : ∃ P,Ev.readE unU l = P:=⟨_,rfl⟩
  have HRC:=hide (fun w he h => eRead_any A l.length c l w h rfl (by omega) (fun p hp => Nat.le_trans (hall p hp) (by decide)) he)
  rw [hP] at HRC
  go_enter Tryz.func4,Tryz.ntmps4
  go_wp2_with fail
  refine (known_any _ HE.out).mono ?_
  rintro _ w1 ⟨rfl,hb⟩
  have HB:=hide hb
  clear hb
  go_wp2_with fail
  refine (ans_is (fewL_any A l.length c l _ (HL.out.keep HB.out) rfl hm) HF.out).mono ?_
  rintro _ w2 ⟨rfl,hb⟩
  replace HB:=hide (andthen HB.out hb)
  clear hb
  go_wp2_with fail
  refine (HRC.out _ (HE.out.keep HB.out) (HL.out.keep HB.out)).mono ?_
  rintro _ w3 ⟨hb3,h3⟩
  replace HB:=hide (andthen HB.out hb3)
  clear hb3 HRC
  cases o with
  | none =>
   simp only at h3
   subst h3
   unfold noEvent
   have hba:=more (start w3) (.cells #[.string ⟨#[]⟩,.string ⟨#[]⟩,.int .i64 0,.int .i64 0,.slice none 0 0,.int .i64 0,.int .i64 0,.int .i64 0,.int .i64 0,.slice none 0 0,.slice none 0 0,.slice none 0 0,.slice none 0 0] 27)
   have HA:=hide (blk_new w3 #[.string ⟨#[]⟩,.string ⟨#[]⟩,.int .i64 0,.int .i64 0,.slice none 0 0,.int .i64 0,.int .i64 0,.int .i64 0,.int .i64 0,.slice none 0 0,.slice none 0 0,.slice none 0 0,.slice none 0 0] 27)
   have HRD:=hide (fun w h => rRead_any A l.length c l w h rfl (by omega) hall)
   rw [hP] at HRD
   replace HB:=hide (andthen HB.out hba)
   have HL3:=hide (HL.out.keep HB.out)
   clear hba hP
   go_wp2_with fail
   refine (HRD.out _ HL3.out).mono ?_
   rintro _ w4 ⟨hb4,h4⟩
   simp only at h4
   subst h4
   unfold noEvent
   have hbb:=more (start w4) (.cells #[.string ⟨#[]⟩,.string ⟨#[]⟩,.int .i64 0,.int .i64 0,.slice none 0 0,.int .i64 0,.int .i64 0,.int .i64 0,.int .i64 0,.slice none 0 0,.slice none 0 0,.slice none 0 0,.slice none 0 0] 27)
   replace HB:=hide (andthen (andthen HB.out hb4) hbb)
   replace HA:=hide ((HA.out.keep hb4).keep hbb)
   have HC:=hide (blk_new w4 #[.string ⟨#[]⟩,.string ⟨#[]⟩,.int .i64 0,.int .i64 0,.slice none 0 0,.int .i64 0,.int .i64 0,.int .i64 0,.int .i64 0,.slice none 0 0,.slice none 0 0,.slice none 0 0,.slice none 0 0] 27)
   clear HRD HL3 hb4 hbb
   obtain ⟨⟨a0,-⟩,⟨a1,-⟩,⟨a2,-⟩,⟨a3,-⟩,⟨a4,-⟩,⟨a5,-⟩,⟨a6,-⟩,⟨a7,-⟩,⟨a8,-⟩,⟨a9,-⟩,⟨a10,-⟩,⟨a11,-⟩,⟨a12,-⟩⟩:=HA.out.c13
   obtain ⟨⟨b0,-⟩,⟨b1,-⟩,⟨b2,-⟩,⟨b3,-⟩,⟨b4,-⟩,⟨b5,-⟩,⟨b6,-⟩,⟨b7,-⟩,⟨b8,-⟩,⟨b9,-⟩,⟨b10,-⟩,⟨b11,-⟩,⟨b12,-⟩⟩:=HC.out.c13
   go_wp2_with fail
   refine (same_zero _).mono ?_
   rintro _ w5 ⟨rfl,hb⟩
   replace HB:=hide (andthen HB.out hb)
   clear hb a0 b0 a1 b1 a2 b2 a3 b3 a4 b4 a5 b5 a6 b6 a7 b7 a8 b8 a9 b9 a10 b10 a11 b11 a12 b12
   go_wp2_with fail
   go_ret
   exact ⟨rfl,HB.out⟩
  | some q =>
   simp only at h3
   obtain ⟨m,rfl,hnew⟩:=h3
   have HM:=hide hnew.lies
   clear hnew
   have hba:=more (start w3) (.cells #[.string (str q.uid),.string (str q.text),.int .i64 q.st,.int .i64 q.lg,.slice m.O q.rooms.length m.oc,.int .i64 q.r.fr,.int .i64 q.r.ev,.int .i64 q.r.ct,.int .i64 q.r.un,.slice m.D q.r.ds.length m.dc,.slice m.M q.r.ms.length m.mc,.slice m.Y q.r.ys.length m.yc,.slice m.X q.ex.length m.xc] 27)
   have HA:=hide (blk_new w3 #[.string (str q.uid),.string (str q.text),.int .i64 q.st,.int .i64 q.lg,.slice m.O q.rooms.length m.oc,.int .i64 q.r.fr,.int .i64 q.r.ev,.int .i64 q.r.ct,.int .i64 q.r.un,.slice m.D q.r.ds.length m.dc,.slice m.M q.r.ms.length m.mc,.slice m.Y q.r.ys.length m.yc,.slice m.X q.ex.length m.xc] 27)
   have HRD:=hide (fun w h => rRead_any A l.length c l w h rfl (by omega) hall)
   rw [hP] at HRD
   replace HB:=hide (andthen HB.out hba)
   have HL3:=hide (HL.out.keep HB.out)
   replace HM:=hide (HM.out.keep hba)
   clear hba hP
   go_wp2_with fail
   refine (HRD.out _ HL3.out).mono ?_
   rintro _ w4 ⟨hb4,h4⟩
   simp only at h4
   obtain ⟨m2,rfl,hl4⟩:=h4
   have hbb:=more (start w4) (.cells #[.string (str q.uid),.string (str q.text),.int .i64 q.st,.int .i64 q.lg,.slice m2.O q.rooms.length m2.oc,.int .i64 q.r.fr,.int .i64 q.r.ev,.int .i64 q.r.ct,.int .i64 q.r.un,.slice m2.D q.r.ds.length m2.dc,.slice m2.M q.r.ms.length m2.mc,.slice m2.Y q.r.ys.length m2.yc,.slice m2.X q.ex.length m2.xc] 27)
   replace HB:=hide (andthen (andthen HB.out hb4) hbb)
   replace HA:=hide ((HA.out.keep hb4).keep hbb)
   have HC:=hide (blk_new w4 #[.string (str q.uid),.string (str q.text),.int .i64 q.st,.int .i64 q.lg,.slice m2.O q.rooms.length m2.oc,.int .i64 q.r.fr,.int .i64 q.r.ev,.int .i64 q.r.ct,.int .i64 q.r.un,.slice m2.D q.r.ds.length m2.dc,.slice m2.M q.r.ms.length m2.mc,.slice m2.Y q.r.ys.length m2.yc,.slice m2.X q.ex.length m2.xc] 27)
   replace HM:=hide ((HM.out.keep hb4).keep hbb)
   have HM2:=hide (hl4.keep hbb)
   clear hl4
   clear HRD HL3 hb4 hbb
   obtain ⟨⟨a0,-⟩,⟨a1,-⟩,⟨a2,-⟩,⟨a3,-⟩,⟨a4,-⟩,⟨a5,-⟩,⟨a6,-⟩,⟨a7,-⟩,⟨a8,-⟩,⟨a9,-⟩,⟨a10,-⟩,⟨a11,-⟩,⟨a12,-⟩⟩:=HA.out.c13
   obtain ⟨⟨b0,-⟩,⟨b1,-⟩,⟨b2,-⟩,⟨b3,-⟩,⟨b4,-⟩,⟨b5,-⟩,⟨b6,-⟩,⟨b7,-⟩,⟨b8,-⟩,⟨b9,-⟩,⟨b10,-⟩,⟨b11,-⟩,⟨b12,-⟩⟩:=HC.out.c13
   go_wp2_with fail
   refine (ans_is (rSame_any q q m m2 _ HM.out HM2.out) (Ev.sameE_self q)).mono ?_
   rintro _ w5 ⟨rfl,hb⟩
   replace HB:=hide (andthen HB.out hb)
   clear hb a0 b0 a1 b1 a2 b2 a3 b3 a4 b4 a5 b5 a6 b6 a7 b7 a8 b8 a9 b9 a10 b10 a11 b11 a12 b12
   go_wp2_with fail
   go_ret
   exact ⟨rfl,HB.out⟩

end Go.Proofs.YtgdjeddelcfgeaaGreatDoor

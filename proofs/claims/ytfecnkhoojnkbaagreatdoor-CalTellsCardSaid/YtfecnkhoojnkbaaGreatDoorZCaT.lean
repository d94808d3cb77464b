/- CalTells: the code's Print and the document's answer the same. -/
import Derived.Test.YtfecnkhoojnkbaaGreatDoorZCaK
import Derived.Test.YtfecnkhoojnkbaaGreatDoorZCaRP
set_option maxHeartbeats 8000000
set_option maxRecDepth 100000
namespace Go.Proofs.YtfecnkhoojnkbaaGreatDoor
open Go.RowKit Rul Rt Go.Sort
theorem caltells_any (A : Option Addr) (n c : Nat) (l : List EM) (w : World) (he : EnvE w) (hr : RowE w A l) (hn : n = l.length) (hm : l.length <= maxLen) (hv : ∀ p ∈ l,EvR w p.1 p.2) :
  Calls Tryz.prog 3 #[.slice A n c] w (Ans w (.bool true)):=by
 have HE:=hide he
 have HR:=hide hr
 have HV:=hide hv
 have HN:=hide hn
 have HM:=hide hm
 obtain ⟨b,hb⟩ : ∃ b,fewEs (l.map Prod.fst) = b:=⟨_,rfl⟩
 have HF:=hide hb
 clear he hr hv hm hb hn
 go_enter Tryz.func3,Tryz.ntmps3
 go_wp2_with fail
 refine (known11_any _ HE.out).mono ?_
 rintro _ w1 ⟨rfl,hb1⟩
 have HB1:=hide hb1
 clear hb1
 go_wp2_with fail
 refine (fewEs_at A n c l b w1 (HR.out.keep HB1.out) HN.out HM.out HF.out).mono ?_
 rintro _ w2 ⟨rfl,hb2⟩
 have HB2:=hide (andthen HB1.out hb2)
 clear hb2
 cases b with
 | false =>
  go_wp2_with fail
  go_ret
  exact ⟨rfl,HB2.out⟩
 | true =>
  have h2:=few_evs HF.out HV.out
  have HEV:=hide h2.1
  have hl10:=h2.2
  clear h2
  go_wp2_with fail
  refine (cPrint_any A n c l w2 (HR.out.keep HB2.out) HN.out (by omega) (HEV.out.keep HB2.out) (HE.out.keep HB2.out)).mono ?_
  rintro _ w3 ⟨hb3,rfl⟩
  have HB3:=hide (andthen HB2.out hb3)
  clear hb3
  obtain ⟨P,hP⟩ : ∃ P,Ca.printC unU (l.map Prod.fst) = P:=⟨_,rfl⟩
  obtain ⟨T,z⟩:=P
  have HP:=hide hP
  rw [hP]
  clear hP
  go_wp2_with fail
  refine (rPrint_any8 A n c l w3 (HR.out.keep HB3.out) HN.out (by omega) (HEV.out.keep HB3.out)).mono ?_
  rintro _ w4 ⟨hb4,rfl⟩
  have HB4:=hide (andthen HB3.out hb4)
  clear hb4
  rw [HP.out]
  have q1:=str_tl T
  have q2 : (T == T) = true:=beq_self_eq_true _
  have q3 : (z == z) = true:=beq_self_eq_true _
  go_wp2_with fail
  go_ret
  exact ⟨rfl,HB4.out⟩
end Go.Proofs.YtfecnkhoojnkbaaGreatDoor

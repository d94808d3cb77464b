/- CalBack: what is printed is read; what is read, printed, is read and printed the same. -/
import Derived.Test.YtfecnkhoojnkbaaGreatDoorZCaK
set_option maxHeartbeats 8000000
set_option maxRecDepth 100000
namespace Go.Proofs.YtfecnkhoojnkbaaGreatDoor
open Go.RowKit Rul Rt Go.Sort
theorem printC_cases (es : List Ev.E) : Ca.printC unU es = ([],14) ∨ Ca.printC unU es = ([],15) ∨ (Ca.okC es = true /\ (Ca.textC unU es).length <= 8000 /\ Ca.printC unU es = (Ca.textC unU es,0)):=by
 unfold Ca.printC
 by_cases h : Ca.okC es = true
 ·rw [if_pos h]
  by_cases h2 : 8000 < (Ca.textC unU es).length
  ·rw [if_pos h2]; exact Or.inr (Or.inl rfl)
  ·rw [if_neg h2]; exact Or.inr (Or.inr ⟨h,by omega,rfl⟩)
 ·rw [if_neg h]; exact Or.inl rfl
theorem printC_ok {es : List Ev.E} (h : Ca.okC es = true) : Ca.printC unU es ≠ ([],14):=by
 unfold Ca.printC
 rw [if_pos h]
 split
 ·intro g; injection g with _ g; exact absurd g (by decide)
 ·intro g; injection g with _ g; exact absurd g (by decide)
theorem parse_cases (es : List Ev.E) (h : Ca.okC es = true) (h2 : (Ca.textC unU es).length <= 8000) : Ca.parseC unU (Ca.textC unU es) = ([],0,15) ∨ Ca.parseC unU (Ca.textC unU es) = (es,(Ca.allC unU es).length,0):=by
 rw [Ca.parse_text unU unU_clean unU_good es h h2]
 split
 ·exact Or.inl rfl
 ·exact Or.inr rfl
theorem cprint_is (A : Option Addr) (n c : Nat) (l : List EM) (es : List Ev.E) (T : Tx) (z : Int) (w : World) (hr : RowE w A l) (hl : l.map Prod.fst = es) (hn : n = es.length) (hsz : es.length <= 100000) (hv : EvsL w l) (he : EnvE w) (hP : Ca.printC unU es = (T,z)) :
  Calls Tryz.prog 9 #[.slice A n c] w fun e w' => e = .returned (.tuple #[.string (str T),.int .i64 z]) /\ Below w.heap.size w w':=by
 have hll : es.length = l.length:=by rw [<- hl,List.length_map]
 refine (cPrint_any A n c l w hr (by rw [hn,hll]) (by omega) hv he).mono ?_
 rw [hl]
 rintro e w' ⟨hb,hx⟩
 rw [hP] at hx
 exact ⟨hx,hb⟩
theorem same_is2 (A A2 : Option Addr) (n n2 c c2 : Nat) (l k : List EM) (es : List Ev.E) (w : World) (hl : RowE w A l) (hk : RowE w A2 k) (h1 : EvsL w l) (h2 : EvsL w k) (e1 : l.map Prod.fst = es) (e2 : k.map Prod.fst = es) (hn : n = es.length) (hn2 : n2 = es.length) (hsz : es.length <= 1000000) :
  Calls Tryz.prog 13 #[.slice A n c,.slice A2 n2 c2] w (Ans w (.bool true)):=by subst hn hn2; exact same_is A A2 _ c c2 l k es w hl hk h1 h2 e1 e2 rfl hsz
theorem calback_any (A : Option Addr) (n c : Nat) (l : List EM) (s : ByteArray) (w : World) (he : EnvE w) (hr : RowE w A l) (hn : n = l.length) (hm : l.length <= maxLen) (hv : ∀ p ∈ l,EvR w p.1 p.2) :
  Calls Tryz.prog 5 #[.slice A n c,.string s] w (Ans w (.bool true)):=by
 have HE:=hide he
 have HR:=hide hr
 have HV:=hide hv
 have HN:=hide hn
 have HM:=hide hm
 obtain ⟨es,hes⟩ : ∃ es,l.map Prod.fst = es:=⟨_,rfl⟩
 have HES:=hide hes
 obtain ⟨b,hb⟩ : ∃ b,fewEs es = b:=⟨_,rfl⟩
 have HF:=hide (show fewEs (l.map Prod.fst) = b by rw [hes]; exact hb)
 clear he hr hv hm hb hn hes
 cases b with
 | false =>
  go_enter Tryz.func5,Tryz.ntmps5
  go_wp2_with fail
  refine (known11_any _ HE.out).mono ?_
  rintro _ w1 ⟨rfl,hb1⟩
  have HB1:=hide hb1
  clear hb1
  go_wp2_with fail
  refine (fewEs_at A n c l false w1 (HR.out.keep HB1.out) HN.out HM.out HF.out).mono ?_
  rintro _ w2 ⟨rfl,hb2⟩
  have HB2:=hide (andthen HB1.out hb2)
  clear hb2
  go_wp2_with fail
  go_ret
  exact ⟨rfl,HB2.out⟩
 | true =>
  by_cases hbig : 3000 < s.size
  ·have hz : (3000 : Int) < (s.size : Int):=by omega
   go_enter Tryz.func5,Tryz.ntmps5
   go_wp2_with fail
   refine (known11_any _ HE.out).mono ?_
   rintro _ w1 ⟨rfl,hb1⟩
   have HB1:=hide hb1
   clear hb1
   go_wp2_with fail
   refine (fewEs_at A n c l true w1 (HR.out.keep HB1.out) HN.out HM.out HF.out).mono ?_
   rintro _ w2 ⟨rfl,hb2⟩
   have HB2:=hide (andthen HB1.out hb2)
   clear hb2
   go_wp2_with fail
   go_ret
   exact ⟨rfl,HB2.out⟩
  ·obtain ⟨S,hS⟩ : ∃ S : Tx,s = str S:=⟨s.data.toList,(data_str s).symm⟩
   have hSl : S.length <= 90000:=by
    have : s.size = S.length:=by rw [hS,str_size]
    omega
   have hz : ¬ (3000 : Int) < (s.size : Int):=by omega
   subst hS
   obtain ⟨P,hPA⟩ : ∃ P,Ca.parseC unU S = P:=⟨_,rfl⟩
   have his:=Ca.parse_is unU S
   rw [hPA] at his
   obtain ⟨a,ka,za⟩:=P
   have HPA:=hide hPA
   have HIS:=hide his
   clear hPA his
   have h2:=few_evs HF.out HV.out
   have HEV:=hide h2.1
   have hl10:=h2.2
   have hesl : es.length = l.length:=by rw [<- HES.out,List.length_map]
   have hes10 : es.length <= 100000:=by omega
   have HNE : Hid (n = es.length):=hide (HN.out.trans hesl.symm)
   clear h2 hesl
   rcases printC_cases es with hp | hp | ⟨hok,hpl,hp⟩
   ·have HP:=hide hp
    clear hp
    go_enter Tryz.func5,Tryz.ntmps5
    go_wp2_with fail
    refine (known11_any _ HE.out).mono ?_
    rintro _ w1 ⟨rfl,hb1⟩
    have HB1:=hide hb1
    clear hb1
    go_wp2_with fail
    refine (fewEs_at A n c l true w1 (HR.out.keep HB1.out) HN.out HM.out HF.out).mono ?_
    rintro _ w2 ⟨rfl,hb2⟩
    have HB2:=hide (andthen HB1.out hb2)
    clear hb2
    go_wp2_with fail
    refine (cprint_is A n c l es [] 14 w2 (HR.out.keep HB2.out) HES.out HNE.out hes10 (HEV.out.keep HB2.out) (HE.out.keep HB2.out) HP.out).mono ?_
    rintro _ w3 ⟨rfl,hb3⟩
    have HB3:=hide (andthen HB2.out hb3)
    clear hb3
    go_wp2_with fail
    refine (cparse_is S a ka za w3 hSl (HE.out.keep HB3.out) HPA.out).mono ?_
    rintro _ w7 ⟨hb7,A7,c7,l7,rfl,hl7,hr7,he7⟩
    have HB7:=hide (andthen HB3.out hb7)
    have HL7:=hide (And.intro hl7 (And.intro hr7 he7))
    clear hb7 hl7 hr7 he7
    rcases HIS.out with ⟨hza,hoka⟩ | ⟨hza,hna⟩
    ·subst hza
     have HLA : Hid (a.length <= 100000):=hide (by have:=parseC_len S a ka 0 HPA.out; omega)
     rcases printC_cases a with hp | hp | ⟨_,hpl,hp⟩
     ·exact absurd hp (printC_ok hoka)
     ·have HPP:=hide hp
      clear hp
      go_wp2_with fail
      refine (cprint_is A7 a.length c7 l7 a [] 15 w7 HL7.out.2.1 HL7.out.1 rfl HLA.out HL7.out.2.2 (HE.out.keep HB7.out) HPP.out).mono ?_
      rintro _ w8 ⟨rfl,hb8⟩
      have HB8:=hide (andthen HB7.out hb8)
      clear hb8
      go_wp2_with fail
      go_ret
      exact ⟨rfl,HB8.out⟩
     ·have HPP:=hide hp
      have hpc:=parse_cases a hoka hpl
      have HOKA:=hide hoka
      have HTL : Hid ((Ca.textC unU a).length <= 90000):=hide (by omega)
      obtain ⟨T2,hT2⟩ : ∃ T,Ca.textC unU a = T:=⟨_,rfl⟩
      rw [hT2] at HPP hpc HTL
      clear hp hpl hT2 hoka
      have q5:=str_tl T2
      have q6 : (T2 == T2) = true:=beq_self_eq_true _
      go_wp2_with fail
      refine (cprint_is A7 a.length c7 l7 a T2 0 w7 HL7.out.2.1 HL7.out.1 rfl HLA.out HL7.out.2.2 (HE.out.keep HB7.out) HPP.out).mono ?_
      rintro _ w8 ⟨rfl,hb8⟩
      have HB8:=hide (andthen HB7.out hb8)
      have HL8:=hide (And.intro HL7.out.1 (And.intro (HL7.out.2.1.keep hb8) (HL7.out.2.2.keep hb8)))
      clear hb8
      rcases hpc with hc | hc
      ·have HPC:=hide hc
       clear hc
       go_wp2_with fail
       refine (cparse_is T2 [] 0 15 w8 HTL.out (HE.out.keep HB8.out) HPC.out).mono ?_
       rintro _ w9 ⟨hb9,A9,c9,l9,rfl,hl9,hr9,he9⟩
       have HB9:=hide (andthen HB8.out hb9)
       have HL9:=hide (And.intro hl9 (And.intro hr9 he9))
       clear hb9 hl9 hr9 he9
       obtain ⟨P3,hP3⟩ : ∃ P,Ca.printC unU [] = P:=⟨_,rfl⟩
       obtain ⟨T3,z3⟩:=P3
       have HP3:=hide hP3
       clear hP3
       go_wp2_with fail
       refine (cprint_is A9 0 c9 l9 [] T3 z3 w9 HL9.out.2.1 HL9.out.1 rfl (by simp) HL9.out.2.2 (HE.out.keep HB9.out) HP3.out).mono ?_
       rintro _ wa ⟨rfl,hba⟩
       have HBa:=hide (andthen HB9.out hba)
       clear hba
       go_wp2_with fail
       go_ret
       exact ⟨rfl,HBa.out⟩
      ·have HPC:=hide hc
       clear hc
       generalize (Ca.allC unU a).length = na at *
       go_wp2_with fail
       refine (cparse_is T2 a na 0 w8 HTL.out (HE.out.keep HB8.out) HPC.out).mono ?_
       rintro _ w9 ⟨hb9,A9,c9,l9,rfl,hl9,hr9,he9⟩
       have HB9:=hide (andthen HB8.out hb9)
       have HL9:=hide (And.intro hl9 (And.intro hr9 he9))
       have HL10:=hide (And.intro HL8.out.1 (And.intro (HL8.out.2.1.keep hb9) (HL8.out.2.2.keep hb9)))
       clear hb9 hl9 hr9 he9
       go_wp2_with fail
       refine (cprint_is A9 a.length c9 l9 a T2 0 w9 HL9.out.2.1 HL9.out.1 rfl HLA.out HL9.out.2.2 (HE.out.keep HB9.out) HPP.out).mono ?_
       rintro _ wa ⟨rfl,hba⟩
       have HBa:=hide (andthen HB9.out hba)
       have HLa:=hide (And.intro (HL9.out.2.1.keep hba) (HL9.out.2.2.keep hba))
       have HLb:=hide (And.intro (HL10.out.2.1.keep hba) (HL10.out.2.2.keep hba))
       clear hba
       go_wp2_with fail
       refine (same_is A7 A9 a.length c7 c9 l7 l9 a wa HLb.out.1 HLa.out.1 HLb.out.2 HLa.out.2 HL10.out.1 HL9.out.1 rfl (by have:=HLA.out; omega)).mono ?_
       rintro _ wb ⟨rfl,hbb⟩
       have HBb:=hide (andthen HBa.out hbb)
       clear hbb
       go_wp2_with fail
       go_ret
       exact ⟨rfl,HBb.out⟩
    ·subst hna
     rcases hza with rfl | rfl
     all_goals
      go_wp2_with fail
      go_ret
      exact ⟨rfl,HB7.out⟩
   ·have HP:=hide hp
    clear hp
    go_enter Tryz.func5,Tryz.ntmps5
    go_wp2_with fail
    refine (known11_any _ HE.out).mono ?_
    rintro _ w1 ⟨rfl,hb1⟩
    have HB1:=hide hb1
    clear hb1
    go_wp2_with fail
    refine (fewEs_at A n c l true w1 (HR.out.keep HB1.out) HN.out HM.out HF.out).mono ?_
    rintro _ w2 ⟨rfl,hb2⟩
    have HB2:=hide (andthen HB1.out hb2)
    clear hb2
    go_wp2_with fail
    refine (cprint_is A n c l es [] 15 w2 (HR.out.keep HB2.out) HES.out HNE.out hes10 (HEV.out.keep HB2.out) (HE.out.keep HB2.out) HP.out).mono ?_
    rintro _ w3 ⟨rfl,hb3⟩
    have HB3:=hide (andthen HB2.out hb3)
    clear hb3
    go_wp2_with fail
    refine (cparse_is S a ka za w3 hSl (HE.out.keep HB3.out) HPA.out).mono ?_
    rintro _ w7 ⟨hb7,A7,c7,l7,rfl,hl7,hr7,he7⟩
    have HB7:=hide (andthen HB3.out hb7)
    have HL7:=hide (And.intro hl7 (And.intro hr7 he7))
    clear hb7 hl7 hr7 he7
    rcases HIS.out with ⟨hza,hoka⟩ | ⟨hza,hna⟩
    ·subst hza
     have HLA : Hid (a.length <= 100000):=hide (by have:=parseC_len S a ka 0 HPA.out; omega)
     rcases printC_cases a with hp | hp | ⟨_,hpl,hp⟩
     ·exact absurd hp (printC_ok hoka)
     ·have HPP:=hide hp
      clear hp
      go_wp2_with fail
      refine (cprint_is A7 a.length c7 l7 a [] 15 w7 HL7.out.2.1 HL7.out.1 rfl HLA.out HL7.out.2.2 (HE.out.keep HB7.out) HPP.out).mono ?_
      rintro _ w8 ⟨rfl,hb8⟩
      have HB8:=hide (andthen HB7.out hb8)
      clear hb8
      go_wp2_with fail
      go_ret
      exact ⟨rfl,HB8.out⟩
     ·have HPP:=hide hp
      have hpc:=parse_cases a hoka hpl
      have HOKA:=hide hoka
      have HTL : Hid ((Ca.textC unU a).length <= 90000):=hide (by omega)
      obtain ⟨T2,hT2⟩ : ∃ T,Ca.textC unU a = T:=⟨_,rfl⟩
      rw [hT2] at HPP hpc HTL
      clear hp hpl hT2 hoka
      have q5:=str_tl T2
      have q6 : (T2 == T2) = true:=beq_self_eq_true _
      go_wp2_with fail
      refine (cprint_is A7 a.length c7 l7 a T2 0 w7 HL7.out.2.1 HL7.out.1 rfl HLA.out HL7.out.2.2 (HE.out.keep HB7.out) HPP.out).mono ?_
      rintro _ w8 ⟨rfl,hb8⟩
      have HB8:=hide (andthen HB7.out hb8)
      have HL8:=hide (And.intro HL7.out.1 (And.intro (HL7.out.2.1.keep hb8) (HL7.out.2.2.keep hb8)))
      clear hb8
      rcases hpc with hc | hc
      ·have HPC:=hide hc
       clear hc
       go_wp2_with fail
       refine (cparse_is T2 [] 0 15 w8 HTL.out (HE.out.keep HB8.out) HPC.out).mono ?_
       rintro _ w9 ⟨hb9,A9,c9,l9,rfl,hl9,hr9,he9⟩
       have HB9:=hide (andthen HB8.out hb9)
       have HL9:=hide (And.intro hl9 (And.intro hr9 he9))
       clear hb9 hl9 hr9 he9
       obtain ⟨P3,hP3⟩ : ∃ P,Ca.printC unU [] = P:=⟨_,rfl⟩
       obtain ⟨T3,z3⟩:=P3
       have HP3:=hide hP3
       clear hP3
       go_wp2_with fail
       refine (cprint_is A9 0 c9 l9 [] T3 z3 w9 HL9.out.2.1 HL9.out.1 rfl (by simp) HL9.out.2.2 (HE.out.keep HB9.out) HP3.out).mono ?_
       rintro _ wa ⟨rfl,hba⟩
       have HBa:=hide (andthen HB9.out hba)
       clear hba
       go_wp2_with fail
       go_ret
       exact ⟨rfl,HBa.out⟩
      ·have HPC:=hide hc
       clear hc
       generalize (Ca.allC unU a).length = na at *
       go_wp2_with fail
       refine (cparse_is T2 a na 0 w8 HTL.out (HE.out.keep HB8.out) HPC.out).mono ?_
       rintro _ w9 ⟨hb9,A9,c9,l9,rfl,hl9,hr9,he9⟩
       have HB9:=hide (andthen HB8.out hb9)
       have HL9:=hide (And.intro hl9 (And.intro hr9 he9))
       have HL10:=hide (And.intro HL8.out.1 (And.intro (HL8.out.2.1.keep hb9) (HL8.out.2.2.keep hb9)))
       clear hb9 hl9 hr9 he9
       go_wp2_with fail
       refine (cprint_is A9 a.length c9 l9 a T2 0 w9 HL9.out.2.1 HL9.out.1 rfl HLA.out HL9.out.2.2 (HE.out.keep HB9.out) HPP.out).mono ?_
       rintro _ wa ⟨rfl,hba⟩
       have HBa:=hide (andthen HB9.out hba)
       have HLa:=hide (And.intro (HL9.out.2.1.keep hba) (HL9.out.2.2.keep hba))
       have HLb:=hide (And.intro (HL10.out.2.1.keep hba) (HL10.out.2.2.keep hba))
       clear hba
       go_wp2_with fail
       refine (same_is A7 A9 a.length c7 c9 l7 l9 a wa HLb.out.1 HLa.out.1 HLb.out.2 HLa.out.2 HL10.out.1 HL9.out.1 rfl (by have:=HLA.out; omega)).mono ?_
       rintro _ wb ⟨rfl,hbb⟩
       have HBb:=hide (andthen HBa.out hbb)
       clear hbb
       go_wp2_with fail
       go_ret
       exact ⟨rfl,HBb.out⟩
    ·subst hna
     rcases hza with rfl | rfl
     all_goals
      go_wp2_with fail
      go_ret
      exact ⟨rfl,HB7.out⟩
   ·have HP:=hide hp
    have hpc:=parse_cases es hok hpl
    have HTX : Hid ((Ca.textC unU es).length <= 90000):=hide (by omega)
    obtain ⟨T1,hT1⟩ : ∃ T,Ca.textC unU es = T:=⟨_,rfl⟩
    rw [hT1] at HP hpc HTX
    clear hp hok hpl hT1
    go_enter Tryz.func5,Tryz.ntmps5
    go_wp2_with fail
    refine (known11_any _ HE.out).mono ?_
    rintro _ w1 ⟨rfl,hb1⟩
    have HB1:=hide hb1
    clear hb1
    go_wp2_with fail
    refine (fewEs_at A n c l true w1 (HR.out.keep HB1.out) HN.out HM.out HF.out).mono ?_
    rintro _ w2 ⟨rfl,hb2⟩
    have HB2:=hide (andthen HB1.out hb2)
    clear hb2
    go_wp2_with fail
    refine (cprint_is A n c l es T1 0 w2 (HR.out.keep HB2.out) HES.out HNE.out hes10 (HEV.out.keep HB2.out) (HE.out.keep HB2.out) HP.out).mono ?_
    rintro _ w3 ⟨rfl,hb3⟩
    have HB3:=hide (andthen HB2.out hb3)
    clear hb3
    rcases hpc with hc | hc
    ·have HPX:=hide hc
     clear hc
     go_wp2_with fail
     refine (cparse_is T1 [] 0 15 w3 HTX.out (HE.out.keep HB3.out) HPX.out).mono ?_
     rintro _ w4 ⟨hb4,A4,c4,l4,rfl,_,_,_⟩
     have HB4:=hide (andthen HB3.out hb4)
     clear hb4
     go_wp2_with fail
     refine (cparse_is S a ka za w4 hSl (HE.out.keep HB4.out) HPA.out).mono ?_
     rintro _ w7 ⟨hb7,A7,c7,l7,rfl,hl7,hr7,he7⟩
     have HB7:=hide (andthen HB4.out hb7)
     have HL7:=hide (And.intro hl7 (And.intro hr7 he7))
     clear hb7 hl7 hr7 he7
     rcases HIS.out with ⟨hza,hoka⟩ | ⟨hza,hna⟩
     ·subst hza
      have HLA : Hid (a.length <= 100000):=hide (by have:=parseC_len S a ka 0 HPA.out; omega)
      rcases printC_cases a with hp | hp | ⟨_,hpl,hp⟩
      ·exact absurd hp (printC_ok hoka)
      ·have HPP:=hide hp
       clear hp
       go_wp2_with fail
       refine (cprint_is A7 a.length c7 l7 a [] 15 w7 HL7.out.2.1 HL7.out.1 rfl HLA.out HL7.out.2.2 (HE.out.keep HB7.out) HPP.out).mono ?_
       rintro _ w8 ⟨rfl,hb8⟩
       have HB8:=hide (andthen HB7.out hb8)
       clear hb8
       go_wp2_with fail
       go_ret
       exact ⟨rfl,HB8.out⟩
      ·have HPP:=hide hp
       have hpc:=parse_cases a hoka hpl
       have HOKA:=hide hoka
       have HTL : Hid ((Ca.textC unU a).length <= 90000):=hide (by omega)
       obtain ⟨T2,hT2⟩ : ∃ T,Ca.textC unU a = T:=⟨_,rfl⟩
       rw [hT2] at HPP hpc HTL
       clear hp hpl hT2 hoka
       have q5:=str_tl T2
       have q6 : (T2 == T2) = true:=beq_self_eq_true _
       go_wp2_with fail
       refine (cprint_is A7 a.length c7 l7 a T2 0 w7 HL7.out.2.1 HL7.out.1 rfl HLA.out HL7.out.2.2 (HE.out.keep HB7.out) HPP.out).mono ?_
       rintro _ w8 ⟨rfl,hb8⟩
       have HB8:=hide (andthen HB7.out hb8)
       have HL8:=hide (And.intro HL7.out.1 (And.intro (HL7.out.2.1.keep hb8) (HL7.out.2.2.keep hb8)))
       clear hb8
       rcases hpc with hc | hc
       ·have HPC:=hide hc
        clear hc
        go_wp2_with fail
        refine (cparse_is T2 [] 0 15 w8 HTL.out (HE.out.keep HB8.out) HPC.out).mono ?_
        rintro _ w9 ⟨hb9,A9,c9,l9,rfl,hl9,hr9,he9⟩
        have HB9:=hide (andthen HB8.out hb9)
        have HL9:=hide (And.intro hl9 (And.intro hr9 he9))
        clear hb9 hl9 hr9 he9
        obtain ⟨P3,hP3⟩ : ∃ P,Ca.printC unU [] = P:=⟨_,rfl⟩
        obtain ⟨T3,z3⟩:=P3
        have HP3:=hide hP3
        clear hP3
        go_wp2_with fail
        refine (cprint_is A9 0 c9 l9 [] T3 z3 w9 HL9.out.2.1 HL9.out.1 rfl (by simp) HL9.out.2.2 (HE.out.keep HB9.out) HP3.out).mono ?_
        rintro _ wa ⟨rfl,hba⟩
        have HBa:=hide (andthen HB9.out hba)
        clear hba
        go_wp2_with fail
        go_ret
        exact ⟨rfl,HBa.out⟩
       ·have HPC:=hide hc
        clear hc
        generalize (Ca.allC unU a).length = na at *
        go_wp2_with fail
        refine (cparse_is T2 a na 0 w8 HTL.out (HE.out.keep HB8.out) HPC.out).mono ?_
        rintro _ w9 ⟨hb9,A9,c9,l9,rfl,hl9,hr9,he9⟩
        have HB9:=hide (andthen HB8.out hb9)
        have HL9:=hide (And.intro hl9 (And.intro hr9 he9))
        have HL10:=hide (And.intro HL8.out.1 (And.intro (HL8.out.2.1.keep hb9) (HL8.out.2.2.keep hb9)))
        clear hb9 hl9 hr9 he9
        go_wp2_with fail
        refine (cprint_is A9 a.length c9 l9 a T2 0 w9 HL9.out.2.1 HL9.out.1 rfl HLA.out HL9.out.2.2 (HE.out.keep HB9.out) HPP.out).mono ?_
        rintro _ wa ⟨rfl,hba⟩
        have HBa:=hide (andthen HB9.out hba)
        have HLa:=hide (And.intro (HL9.out.2.1.keep hba) (HL9.out.2.2.keep hba))
        have HLb:=hide (And.intro (HL10.out.2.1.keep hba) (HL10.out.2.2.keep hba))
        clear hba
        go_wp2_with fail
        refine (same_is A7 A9 a.length c7 c9 l7 l9 a wa HLb.out.1 HLa.out.1 HLb.out.2 HLa.out.2 HL10.out.1 HL9.out.1 rfl (by have:=HLA.out; omega)).mono ?_
        rintro _ wb ⟨rfl,hbb⟩
        have HBb:=hide (andthen HBa.out hbb)
        clear hbb
        go_wp2_with fail
        go_ret
        exact ⟨rfl,HBb.out⟩
     ·subst hna
      rcases hza with rfl | rfl
      all_goals
       go_wp2_with fail
       go_ret
       exact ⟨rfl,HB7.out⟩
    ·have HPX:=hide hc
     clear hc
     generalize (Ca.allC unU es).length = n1 at *
     go_wp2_with fail
     refine (cparse_is T1 es n1 0 w3 HTX.out (HE.out.keep HB3.out) HPX.out).mono ?_
     rintro _ w4 ⟨hb4,A4,c4,l4,rfl,hl4,hr4,he4⟩
     have HB4:=hide (andthen HB3.out hb4)
     have HL4:=hide (And.intro hl4 (And.intro hr4 he4))
     clear hb4 hl4 hr4 he4
     go_wp2_with fail
     refine (same_is2 A4 A es.length n c4 c l4 l es w4 HL4.out.2.1 (HR.out.keep HB4.out) HL4.out.2.2 (HEV.out.keep HB4.out) HL4.out.1 HES.out rfl HNE.out (by omega)).mono ?_
     rintro _ w5 ⟨rfl,hb5⟩
     have HB5:=hide (andthen HB4.out hb5)
     clear hb5
     go_wp2_with fail
     refine (cparse_is S a ka za w5 hSl (HE.out.keep HB5.out) HPA.out).mono ?_
     rintro _ w7 ⟨hb7,A7,c7,l7,rfl,hl7,hr7,he7⟩
     have HB7:=hide (andthen HB5.out hb7)
     have HL7:=hide (And.intro hl7 (And.intro hr7 he7))
     clear hb7 hl7 hr7 he7
     rcases HIS.out with ⟨hza,hoka⟩ | ⟨hza,hna⟩
     ·subst hza
      have HLA : Hid (a.length <= 100000):=hide (by have:=parseC_len S a ka 0 HPA.out; omega)
      rcases printC_cases a with hp | hp | ⟨_,hpl,hp⟩
      ·exact absurd hp (printC_ok hoka)
      ·have HPP:=hide hp
       clear hp
       go_wp2_with fail
       refine (cprint_is A7 a.length c7 l7 a [] 15 w7 HL7.out.2.1 HL7.out.1 rfl HLA.out HL7.out.2.2 (HE.out.keep HB7.out) HPP.out).mono ?_
       rintro _ w8 ⟨rfl,hb8⟩
       have HB8:=hide (andthen HB7.out hb8)
       clear hb8
       go_wp2_with fail
       go_ret
       exact ⟨rfl,HB8.out⟩
      ·have HPP:=hide hp
       have hpc:=parse_cases a hoka hpl
       have HOKA:=hide hoka
       have HTL : Hid ((Ca.textC unU a).length <= 90000):=hide (by omega)
       obtain ⟨T2,hT2⟩ : ∃ T,Ca.textC unU a = T:=⟨_,rfl⟩
       rw [hT2] at HPP hpc HTL
       clear hp hpl hT2 hoka
       have q5:=str_tl T2
       have q6 : (T2 == T2) = true:=beq_self_eq_true _
       go_wp2_with fail
       refine (cprint_is A7 a.length c7 l7 a T2 0 w7 HL7.out.2.1 HL7.out.1 rfl HLA.out HL7.out.2.2 (HE.out.keep HB7.out) HPP.out).mono ?_
       rintro _ w8 ⟨rfl,hb8⟩
       have HB8:=hide (andthen HB7.out hb8)
       have HL8:=hide (And.intro HL7.out.1 (And.intro (HL7.out.2.1.keep hb8) (HL7.out.2.2.keep hb8)))
       clear hb8
       rcases hpc with hc | hc
       ·have HPC:=hide hc
        clear hc
        go_wp2_with fail
        refine (cparse_is T2 [] 0 15 w8 HTL.out (HE.out.keep HB8.out) HPC.out).mono ?_
        rintro _ w9 ⟨hb9,A9,c9,l9,rfl,hl9,hr9,he9⟩
        have HB9:=hide (andthen HB8.out hb9)
        have HL9:=hide (And.intro hl9 (And.intro hr9 he9))
        clear hb9 hl9 hr9 he9
        obtain ⟨P3,hP3⟩ : ∃ P,Ca.printC unU [] = P:=⟨_,rfl⟩
        obtain ⟨T3,z3⟩:=P3
        have HP3:=hide hP3
        clear hP3
        go_wp2_with fail
        refine (cprint_is A9 0 c9 l9 [] T3 z3 w9 HL9.out.2.1 HL9.out.1 rfl (by simp) HL9.out.2.2 (HE.out.keep HB9.out) HP3.out).mono ?_
        rintro _ wa ⟨rfl,hba⟩
        have HBa:=hide (andthen HB9.out hba)
        clear hba
        go_wp2_with fail
        go_ret
        exact ⟨rfl,HBa.out⟩
       ·have HPC:=hide hc
        clear hc
        generalize (Ca.allC unU a).length = na at *
        go_wp2_with fail
        refine (cparse_is T2 a na 0 w8 HTL.out (HE.out.keep HB8.out) HPC.out).mono ?_
        rintro _ w9 ⟨hb9,A9,c9,l9,rfl,hl9,hr9,he9⟩
        have HB9:=hide (andthen HB8.out hb9)
        have HL9:=hide (And.intro hl9 (And.intro hr9 he9))
        have HL10:=hide (And.intro HL8.out.1 (And.intro (HL8.out.2.1.keep hb9) (HL8.out.2.2.keep hb9)))
        clear hb9 hl9 hr9 he9
        go_wp2_with fail
        refine (cprint_is A9 a.length c9 l9 a T2 0 w9 HL9.out.2.1 HL9.out.1 rfl HLA.out HL9.out.2.2 (HE.out.keep HB9.out) HPP.out).mono ?_
        rintro _ wa ⟨rfl,hba⟩
        have HBa:=hide (andthen HB9.out hba)
        have HLa:=hide (And.intro (HL9.out.2.1.keep hba) (HL9.out.2.2.keep hba))
        have HLb:=hide (And.intro (HL10.out.2.1.keep hba) (HL10.out.2.2.keep hba))
        clear hba
        go_wp2_with fail
        refine (same_is A7 A9 a.length c7 c9 l7 l9 a wa HLb.out.1 HLa.out.1 HLb.out.2 HLa.out.2 HL10.out.1 HL9.out.1 rfl (by have:=HLA.out; omega)).mono ?_
        rintro _ wb ⟨rfl,hbb⟩
        have HBb:=hide (andthen HBa.out hbb)
        clear hbb
        go_wp2_with fail
        go_ret
        exact ⟨rfl,HBb.out⟩
     ·subst hna
      rcases hza with rfl | rfl
      all_goals
       go_wp2_with fail
       go_ret
       exact ⟨rfl,HB7.out⟩
end Go.Proofs.YtfecnkhoojnkbaaGreatDoor

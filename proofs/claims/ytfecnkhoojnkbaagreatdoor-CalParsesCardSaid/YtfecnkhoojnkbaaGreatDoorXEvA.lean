import Derived.Test.YtfecnkhoojnkbaaGreatDoorXW3
import Derived.Test.YtfecnkhoojnkbaaGreatDoorXM3
set_option maxHeartbeats 8000000
set_option maxRecDepth 1000000
namespace Go.Proofs.YtfecnkhoojnkbaaGreatDoor
open Go.RowKit Rul Rt Go.Sort Tryz
theorem tJ (a x b:Int) (w:World) :
  Calls prog 117 #[.int .i64 a,.int .i64 x,.int .i64 b] w fun e w'=>e=.returned (.bool (btw a x b))/\w=w':=by
 by_cases h:a<=x
 ·have e:=A5 (show btw a x b=decide (x<=b) by simp [btw,h]);go_enter func117,ntmps117;go_wp2_with fail;go_ret;exact ⟨AA (by rw [e.out]),rfl⟩
 ·have e:=A5 (show btw a x b=false by simp [btw,h]);have hd:decide (a<=x)=false:=by simpa using h
  go_enter func117,ntmps117;go_wp2_with fail;go_ret;exact ⟨AA (by rw [e.out]),rfl⟩
theorem MW (a x b:Int) (c:Bool) (w:World) (h:btw a x b=c) :
  Calls prog 117 #[.int .i64 a,.int .i64 x,.int .i64 b] w fun e w'=>e=.returned (.bool c)/\w=w':=by
 subst h;exact tJ a x b w
theorem tK (a x b:Int) (w:World) :
  Calls prog 175 #[.int .u8 a,.int .u8 x,.int .u8 b] w fun e w'=>e=.returned (.bool (btw a x b))/\w=w':=by
 by_cases h:a<=x
 ·have e:=A5 (show btw a x b=decide (x<=b) by simp [btw,h]);go_enter func175,ntmps175;go_wp2_with fail;go_ret;exact ⟨AA (by rw [e.out]),rfl⟩
 ·have e:=A5 (show btw a x b=false by simp [btw,h]);have hd:decide (a<=x)=false:=by simpa using h
  go_enter func175,ntmps175;go_wp2_with fail;go_ret;exact ⟨AA (by rw [e.out]),rfl⟩
theorem GF (a x b:Int) (c:Bool) (w:World) (h:btw a x b=c) :
  Calls prog 175 #[.int .u8 a,.int .u8 x,.int .u8 b] w fun e w'=>e=.returned (.bool c)/\w=w':=by
 subst h;exact tK a x b w
theorem o7 (C:Int) (w:World) :
  Calls prog 148 #[.int .u8 C] w fun e w'=>e=.returned (.bool (Ev.PS C))/\w=w':=by
 cases h1:btw 97 C 122
 ·cases h2:btw 65 C 90
  ·cases h3:btw 48 C 57
   ·have e:=A5 (show Ev.PS C=(C==45) by unfold Ev.PS;rw [h1,h2,h3];rfl);have H1:=A5 h1;have H2:=A5 h2;have H3:=A5 h3;clear h1 h2 h3;go_enter func148,ntmps148;go_wp2_with fail;refine (GF _ _ _ _ _ H1.out).mono ?_;rintro e w' ⟨rfl,rfl⟩;go_wp2_with fail;refine (GF _ _ _ _ _ H2.out).mono ?_;rintro e w' ⟨rfl,rfl⟩;go_wp2_with fail;refine (GF _ _ _ _ _ H3.out).mono ?_;rintro e w' ⟨rfl,rfl⟩;go_wp2_with fail;go_ret;exact ⟨AA (by rw [e.out]),rfl⟩
   ·have e:=A5 (show Ev.PS C=true by unfold Ev.PS;rw [h1,h2,h3];rfl);have H1:=A5 h1;have H2:=A5 h2;have H3:=A5 h3;clear h1 h2 h3;go_enter func148,ntmps148;go_wp2_with fail;refine (GF _ _ _ _ _ H1.out).mono ?_;rintro e w' ⟨rfl,rfl⟩;go_wp2_with fail;refine (GF _ _ _ _ _ H2.out).mono ?_;rintro e w' ⟨rfl,rfl⟩;go_wp2_with fail;refine (GF _ _ _ _ _ H3.out).mono ?_;rintro e w' ⟨rfl,rfl⟩;go_wp2_with fail;go_ret;exact ⟨AA (by rw [e.out]),rfl⟩
  ·have e:=A5 (show Ev.PS C=true by unfold Ev.PS;rw [h1,h2];rfl);have H1:=A5 h1;have H2:=A5 h2;clear h1 h2;go_enter func148,ntmps148;go_wp2_with fail;refine (GF _ _ _ _ _ H1.out).mono ?_;rintro e w' ⟨rfl,rfl⟩;go_wp2_with fail;refine (GF _ _ _ _ _ H2.out).mono ?_;rintro e w' ⟨rfl,rfl⟩;go_wp2_with fail;go_ret;exact ⟨AA (by rw [e.out]),rfl⟩
 ·have e:=A5 (show Ev.PS C=true by unfold Ev.PS;rw [h1];rfl);have H1:=A5 h1;clear h1;go_enter func148,ntmps148;go_wp2_with fail;refine (GF _ _ _ _ _ H1.out).mono ?_;rintro e w' ⟨rfl,rfl⟩;go_wp2_with fail;go_ret;exact ⟨AA (by rw [e.out]),rfl⟩
theorem cB (c:UInt8) (b:Bool) (w:World) (h:Ev.OG c=b) :
  Calls prog 148 #[.int .u8 (c.toNat:Int)] w fun e w'=>e=.returned (.bool b)/\w=w':=by
 subst h;exact o7 _ w
theorem iB (C:Int) (w:World) :
  Calls prog 149 #[.int .u8 C] w fun e w'=>e=.returned (.bool (Ev.NY C))/\w=w':=by
 cases h1:btw 32 C 126
 ·have e:=A5 (show Ev.NY C=(C==10) by unfold Ev.NY;rw [h1];rfl);have H1:=A5 h1;clear h1;go_enter func149,ntmps149;go_wp2_with fail;refine (GF _ _ _ _ _ H1.out).mono ?_;rintro e w' ⟨rfl,rfl⟩;go_wp2_with fail;go_ret;exact ⟨AA (by rw [e.out]),rfl⟩
 ·have e:=A5 (show Ev.NY C=true by unfold Ev.NY;rw [h1];rfl);have H1:=A5 h1;clear h1;go_enter func149,ntmps149;go_wp2_with fail;refine (GF _ _ _ _ _ H1.out).mono ?_;rintro e w' ⟨rfl,rfl⟩;go_wp2_with fail;go_ret;exact ⟨AA (by rw [e.out]),rfl⟩
theorem WV (c:UInt8) (b:Bool) (w:World) (h:Ev.CK c=b) :
  Calls prog 149 #[.int .u8 (c.toNat:Int)] w fun e w'=>e=.returned (.bool b)/\w=w':=by
 subst h;exact iB _ w
theorem E9 (s:ByteArray) (k:Nat) (h:k<s.size) (h2:k<s.data.toList.length):s.data.toList[k]'h2=s[k]'h:=by
 simp [ByteArray.getElem_eq_getElem_data]
theorem SX {α:Type} (p:α->Bool) (s:List α) (k:Nat) (h:k<s.length) (hc:p s[k]=false):s.all p=false:=by
 rw [Bool.eq_false_iff];intro g;rw [List.all_eq_true] at g;have:=g s[k] (List.getElem_mem h);rw [hc] at this;cases this
theorem MX {α:Type} (p:α->Bool) (s:List α) (k:Nat) (h:k<s.length) (hk:(s.take k).all p=true) (hc:p s[k]=true):(s.take (k+1)).all p=true:=by
 rw [List.take_succ_eq_append_getElem h,List.all_append,hk,List.all_cons,hc];rfl
theorem tL (s:ByteArray) (w:World) (hs:s.size<=100000) :
  Calls prog 147 #[.func (.func 148) #[] #[],.string s] w fun e w'=>e=.returned (.bool (s.data.toList.all Ev.OG))/\w=w':=by
 go_enter func147,ntmps147;go_wp2_with fail
 go_loopw [8] (fun i wr=>∃ k:Nat,k<=s.size/\i=.int .i64 k/\Hid ((s.data.toList.take k).all Ev.OG=true)/\wr=w) (fun i _=>s.size-(intOf i).toNat)
 case atStart=>exact ⟨0,Nat.zero_le _,rfl,A5 rfl,rfl⟩
 case round =>
  obtain ⟨k,hk,rfl,HA,rfl⟩:=hrel
  by_cases hlt:k<s.size
  ·have hlt1:(k:Int)<(s.size:Int):=by omega
   have hk0:(0:Int)<=(k:Int):=by omega
   obtain ⟨c,hc⟩:∃ c,s[k]'hlt=c:=⟨_,rfl⟩;have hkl:k<s.data.toList.length:=by rw [AE];exact hlt
   have hcl:s.data.toList[k]=c:=by rw [E9 s k hlt,hc]
   cases hb:Ev.OG c with
   | true =>
    have HN:=A5 (MX Ev.OG s.data.toList k hkl HA.out (by rw [hcl];exact hb));have HI:=A5 (fun w=>cB c true w hb);clear hb hcl hkl;go_wp2_with fail;refine (HI.out _).mono ?_;rintro e w' ⟨rfl,rfl⟩;go_wp2_with fail
    go_roundw
    case rel=>exact ⟨k+1,by omega,by go_num,HN,by trivial⟩
    case measure=>simp [intOf];omega
   | false =>
    have HF:=A5 (SX Ev.OG s.data.toList k hkl (by rw [hcl];exact hb));have HI:=A5 (fun w=>cB c false w hb);clear hb hcl hkl;go_wp2_with fail;refine (HI.out _).mono ?_;rintro e w' ⟨rfl,rfl⟩;go_wp2_with fail;go_ret;exact ⟨AA HF.out.symm,rfl⟩
  ·obtain rfl:k=s.size:=by omega
   have HF:Hid (s.data.toList.all Ev.OG=true):=A5 (by
    have h:=HA.out;rw [List.take_of_length_le (by rw [AE];omega)] at h;exact h)
   go_wp2_with fail;go_ret;exact ⟨AA HF.out.symm,rfl⟩
theorem tM (s:ByteArray) (w:World) (hs:s.size<=100000) :
  Calls prog 147 #[.func (.func 149) #[] #[],.string s] w fun e w'=>e=.returned (.bool (s.data.toList.all Ev.CK))/\w=w':=by
 go_enter func147,ntmps147;go_wp2_with fail
 go_loopw [8] (fun i wr=>∃ k:Nat,k<=s.size/\i=.int .i64 k/\Hid ((s.data.toList.take k).all Ev.CK=true)/\wr=w) (fun i _=>s.size-(intOf i).toNat)
 case atStart=>exact ⟨0,Nat.zero_le _,rfl,A5 rfl,rfl⟩
 case round =>
  obtain ⟨k,hk,rfl,HA,rfl⟩:=hrel
  by_cases hlt:k<s.size
  ·have hlt1:(k:Int)<(s.size:Int):=by omega
   have hk0:(0:Int)<=(k:Int):=by omega
   obtain ⟨c,hc⟩:∃ c,s[k]'hlt=c:=⟨_,rfl⟩;have hkl:k<s.data.toList.length:=by rw [AE];exact hlt
   have hcl:s.data.toList[k]=c:=by rw [E9 s k hlt,hc]
   cases hb:Ev.CK c with
   | true =>
    have HN:=A5 (MX Ev.CK s.data.toList k hkl HA.out (by rw [hcl];exact hb));have HI:=A5 (fun w=>WV c true w hb);clear hb hcl hkl;go_wp2_with fail;refine (HI.out _).mono ?_;rintro e w' ⟨rfl,rfl⟩;go_wp2_with fail
    go_roundw
    case rel=>exact ⟨k+1,by omega,by go_num,HN,by trivial⟩
    case measure=>simp [intOf];omega
   | false =>
    have HF:=A5 (SX Ev.CK s.data.toList k hkl (by rw [hcl];exact hb));have HI:=A5 (fun w=>WV c false w hb);clear hb hcl hkl;go_wp2_with fail;refine (HI.out _).mono ?_;rintro e w' ⟨rfl,rfl⟩;go_wp2_with fail;go_ret;exact ⟨AA HF.out.symm,rfl⟩
  ·obtain rfl:k=s.size:=by omega
   have HF:Hid (s.data.toList.all Ev.CK=true):=A5 (by
    have h:=HA.out;rw [List.take_of_length_le (by rw [AE];omega)] at h;exact h)
   go_wp2_with fail;go_ret;exact ⟨AA HF.out.symm,rfl⟩
theorem WW (s:ByteArray) (w:World) (hs:s.size<=100000) :
  Calls prog 112 #[.string s] w fun e w'=>e=.returned (.bool (Ev.FT s.data.toList))/\w=w':=by
 by_cases h:1<=s.size/\s.size<=12
 ·have E:Hid (Ev.FT s.data.toList=s.data.toList.all Ev.OG):=A5 (by unfold Ev.FT;rw [AE,z0H h,Bool.true_and]);have H:=A5 (fun w=>MW 1 s.size 12 true w (by rw [AY];omega));have HA:=A5 (fun w=>tL s w hs);generalize s.data.toList.all Ev.OG=B at *;clear h;go_enter func112,ntmps112;go_wp2_with fail;refine (H.out _).mono ?_;rintro e w' ⟨rfl,rfl⟩;go_wp2_with fail;refine (HA.out _).mono ?_;rintro e w' ⟨rfl,rfl⟩;go_wp2_with fail;go_ret;exact ⟨AA (by rw [E.out]),rfl⟩
 ·have E:Hid (Ev.FT s.data.toList=false):=A5 (by unfold Ev.FT;rw [AE,z0G h,Bool.false_and]);have H:=A5 (fun w=>MW 1 s.size 12 false w (by rw [JU];omega));clear h;go_enter func112,ntmps112;go_wp2_with fail;refine (H.out _).mono ?_;rintro e w' ⟨rfl,rfl⟩;go_wp2_with fail;go_ret;exact ⟨AA (by rw [E.out]),rfl⟩
theorem tN (s:ByteArray) (b:Bool) (w:World) (hs:s.size<=100000) (h:Ev.FT s.data.toList=b) :
  Calls prog 112 #[.string s] w fun e w'=>e=.returned (.bool b)/\w=w':=by
 subst h;exact WW s w hs
theorem U4 (s:ByteArray) (w:World) (hs:s.size<=100000) :
  Calls prog 113 #[.string s] w fun e w'=>e=.returned (.bool (Ev.E0 s.data.toList))/\w=w':=by
 by_cases h:s.size<=40
 ·have E:Hid (Ev.E0 s.data.toList=s.data.toList.all Ev.CK):=A5 (by unfold Ev.E0;rw [AE,z0H h,Bool.true_and]);have d:decide ((s.size:Int)<=40)=true:=z0H (by omega);have HA:=A5 (fun w=>tM s w hs);generalize s.data.toList.all Ev.CK=B at *;clear h;go_enter func113,ntmps113;go_wp2_with fail;refine (HA.out _).mono ?_;rintro e w' ⟨rfl,rfl⟩;go_wp2_with fail;go_ret;exact ⟨AA (by rw [E.out]),rfl⟩
 ·have E:Hid (Ev.E0 s.data.toList=false):=A5 (by unfold Ev.E0;rw [AE,z0G h,Bool.false_and]);have d:decide ((s.size:Int)<=40)=false:=z0G (by omega);clear h;go_enter func113,ntmps113;go_wp2_with fail;go_ret;exact ⟨AA (by rw [E.out]),rfl⟩
theorem o8 (s:ByteArray) (b:Bool) (w:World) (hs:s.size<=100000) (h:Ev.E0 s.data.toList=b) :
  Calls prog 113 #[.string s] w fun e w'=>e=.returned (.bool b)/\w=w':=by
 subst h;exact U4 s w hs
theorem U5 (n:Int) (w:World) :
  Calls prog 115 #[.int .i64 n] w fun e w'=>e=.returned (.bool (Ev.lgB n))/\w=w':=by
 have H:=A5 (fun w=>MW 1 n 10080 (Ev.lgB n) w rfl);go_enter func115,ntmps115;go_wp2_with fail;refine (H.out _).mono ?_;rintro e w' ⟨rfl,rfl⟩;go_wp2_with fail;go_ret;exact ⟨rfl,rfl⟩
theorem iC (n:Int) (w:World) :
  Calls prog 119 #[.int .i64 n] w (Ans w (.bool (Ev.CO n))):=by
 have H:=A5 (fun w=>MW 0 n 7 (Ev.CO n) w rfl);go_enter func119,ntmps119;go_wp2_with fail;refine (H.out _).mono ?_;rintro e w' ⟨rfl,rfl⟩;go_wp2_with fail;go_ret;exact ⟨rfl,start _⟩
theorem YT (n:Int) (w:World) :
  Calls prog 114 #[.int .i64 n] w (Ans w (.bool (Ev.FQ n))):=by
 by_cases h:0<=n/\n<52596000
 ·have E:Hid (Ev.FQ n=true):=A5 ((Ev.F3 n).2 h);have H:=A5 (fun w=>XT n w h.1 h.2);clear h;go_enter func114,ntmps114;go_wp2_with fail;refine (H.out _).mono ?_;rintro e w1 ⟨rfl,hb⟩;have HB:=A5 (more hb (.cells #[.int .i64 (Cal.yOf (n / 1440)),.int .i64 (Cal.mOf (n / 1440)),.int .i64 (Cal.dOf (n / 1440))] 108));clear hb;go_wp2_with fail;go_ret;exact ⟨AA (by rw [E.out]),by first|exact HB.out|skip⟩
 ·have E:Hid (Ev.FQ n=false):=A5 (by rw [<- Bool.not_eq_true,Ev.F3];exact h);have H:=A5 (fun w=>eE n w (by omega));clear h;go_enter func114,ntmps114;go_wp2_with fail;refine (H.out _).mono ?_;rintro e w1 ⟨rfl,hb⟩;have HB:=A5 (more hb (.cells #[.int .i64 0,.int .i64 0,.int .i64 0] 108));clear hb;go_wp2_with fail;go_ret;exact ⟨AA (by rw [E.out]),by first|exact HB.out|skip⟩
theorem WX (n:Int) (b:Bool) (w:World) (h:Ev.CO n=b):Calls prog 119 #[.int .i64 n] w (Ans w (.bool b)):=by subst h;exact iC n w
theorem tO (A:Option Addr) (n c:Nat) (l:List Int) (w:World) (hl:BS w A l) (hn:n=l.length) (hsz:l.length<=100000) :
  Calls prog 118 #[.func (.func 119) #[] #[],.slice A n c] w (Ans w (.bool (WD Ev.CO AI 0 l))):=by
 subst hn
 by_cases hnil:l=[]
 ·subst hnil;go_enter func118,ntmps118;go_wp2_with fail;refine wp_loop_rounds 1 ?_;rw [rounds_succ];go_wp2_with fail;go_ret;exact ⟨rfl,start _⟩
 ·obtain ⟨b1,o1,rfl,hb1,hc1⟩:=hl hnil;have HC1:=A5 hc1;clear hl hc1 hnil;go_enter func118,ntmps118;go_wp2_with fail
  go_loopw [9] (fun i wr=>∃ j:Nat,j<=l.length/\i=.int .i64 j/\(∀ i,i<j->F0 Ev.CO AI 0 l i=true)/\Below w.heap.size w wr) (fun i _=>l.length-(intOf i).toNat)
  case atStart=>exact ⟨0,Nat.zero_le _,rfl,fun i h=>absurd h (Nat.not_lt_zero _),start _⟩
  case round =>
   obtain ⟨j,hj,rfl,heq,hbw⟩:=hrel;have HE:=A5 heq;clear heq
   by_cases hlt:j<l.length
   ·have hi0:(0:Int)<=(j:Int):=by omega
    have hi1:(j:Int)<(l.length:Int):=by omega
    cases hq:Ev.CO l[j]
    ·have p1:wr.cell? ⟨b1,o1+j,none⟩=some (.int .i64 l[j]):=(hbw.cell (p:=⟨b1,_,none⟩) hb1).trans (by first|exact HC1.out j hlt|simpa using HC1.out j hlt);have HN:=A5 (L7 Ev.CO AI 0 l j hlt (EW _ _ _ _ _ hlt hq));have HQ:=A5 (fun w=>WX l[j] false w hq);clear hq;go_wp2_with fail;refine (HQ.out _).mono ?_;rintro e w1 ⟨rfl,hb2⟩;replace hbw:=hbw.trans (hb2.mono hbw.size);clear hb2;go_wp2_with fail;go_ret;exact ⟨AA (by rw [HN.out]),hbw⟩
    ·have HQ:=A5 (fun w=>WX l[j] true w hq);rcases Nat.eq_zero_or_pos j with hz|hz
     ·subst hz;have p1:wr.cell? ⟨b1,o1,none⟩=some (.int .i64 l[0]):=(hbw.cell (p:=⟨b1,_,none⟩) hb1).trans (by first|exact HC1.out 0 hlt|simpa using HC1.out 0 hlt);have HN:=A5 (CL Ev.CO AI 0 l 0 HE.out (by rw [I1 _ _ _ _ hlt];exact hq));clear hq;have g0:¬ (0:Int)<((0:Nat):Int):=by omega
      have g1:decide ((0:Int)<((0:Nat):Int))=false:=rfl;go_wp2_with fail;refine (HQ.out _).mono ?_;rintro e w1 ⟨rfl,hb2⟩;replace hbw:=hbw.trans (hb2.mono hbw.size);clear hb2;go_wp2_with fail
      go_roundw
      case rel=>exact ⟨1,by omega,by go_num,HN.out,hbw⟩
      case measure=>simp [intOf];omega
     ·obtain ⟨m,rfl⟩:∃ m,j=m+1:=⟨j-1,by omega⟩;have hlm:m<l.length:=Nat.lt_of_succ_lt hlt;have p1:wr.cell? ⟨b1,o1+(m+1),none⟩=some (.int .i64 l[(m+1)]):=(hbw.cell (p:=⟨b1,_,none⟩) hb1).trans (by first|exact HC1.out (m+1) hlt|simpa using HC1.out (m+1) hlt);have p0:wr.cell? ⟨b1,o1+m,none⟩=some (.int .i64 l[m]):=(hbw.cell (p:=⟨b1,_,none⟩) hb1).trans (by first|exact HC1.out m hlm|simpa using HC1.out m hlm);have g0:(0:Int)<((m+1:Nat):Int):=by omega
      have g1:decide ((0:Int)<((m+1:Nat):Int))=true:=z0H g0;have g2:((m+1:Nat):Int)-1=(m:Int):=by omega
      have g3:(0:Int)<=(m:Int):=by omega
      have g4:(m:Int)<(l.length:Int):=by omega
      have hs:=DP Ev.CO AI 0 l m hlt;rw [hq,Bool.true_and] at hs;clear hq
      cases hc:AI l[m] l[m+1]
      ·have hd:decide (l[m+1]<=l[m])=true:=by unfold AI at hc;rw [decide_eq_false_iff_not] at hc;exact z0H (by omega)
       have hd2:l[m+1]<=l[m]:=of_decide_eq_true hd;have HN:=A5 (L7 Ev.CO AI 0 l (m+1) hlt (by rw [hs,hc]));clear hs hc;go_wp2_with fail;refine (HQ.out _).mono ?_;rintro e w1 ⟨rfl,hb2⟩;replace hbw:=hbw.trans (hb2.mono hbw.size);have q0:=A9 hb2 p0;clear hb2;go_wp2_with fail;go_ret;exact ⟨AA (by rw [HN.out]),hbw⟩
      ·have hd:decide (l[m+1]<=l[m])=false:=by unfold AI at hc;rw [decide_eq_true_eq] at hc;exact z0G (by omega)
       have hd2:¬ l[m+1]<=l[m]:=of_decide_eq_false hd;have HN:=A5 (CL Ev.CO AI 0 l (m+1) HE.out (by rw [hs,hc]));clear hs hc;go_wp2_with fail;refine (HQ.out _).mono ?_;rintro e w1 ⟨rfl,hb2⟩;replace hbw:=hbw.trans (hb2.mono hbw.size);have q0:=A9 hb2 p0;clear hb2;go_wp2_with fail
       go_roundw
       case rel=>exact ⟨m+1+1,by omega,by go_num,HN.out,hbw⟩
       case measure=>simp [intOf];omega
   ·obtain rfl:j=l.length:=by omega
    have HF:=A5 ((GG Ev.CO AI 0 l).2 HE.out);go_wp2_with fail;go_ret;exact ⟨AA (by rw [HF.out]),hbw⟩
theorem BX (n:Int) (b:Bool) (w:World) (h:Ev.FQ n=b):Calls prog 114 #[.int .i64 n] w (Ans w (.bool b)):=by subst h;exact YT n w
theorem tP (A:Option Addr) (n c:Nat) (l:List Int) (w:World) (hl:BS w A l) (hn:n=l.length) (hsz:l.length<=100000) :
  Calls prog 118 #[.func (.func 114) #[] #[],.slice A n c] w (Ans w (.bool (WD Ev.FQ AI 0 l))):=by
 subst hn
 by_cases hnil:l=[]
 ·subst hnil;go_enter func118,ntmps118;go_wp2_with fail;refine wp_loop_rounds 1 ?_;rw [rounds_succ];go_wp2_with fail;go_ret;exact ⟨rfl,start _⟩
 ·obtain ⟨b1,o1,rfl,hb1,hc1⟩:=hl hnil;have HC1:=A5 hc1;clear hl hc1 hnil;go_enter func118,ntmps118;go_wp2_with fail
  go_loopw [9] (fun i wr=>∃ j:Nat,j<=l.length/\i=.int .i64 j/\(∀ i,i<j->F0 Ev.FQ AI 0 l i=true)/\Below w.heap.size w wr) (fun i _=>l.length-(intOf i).toNat)
  case atStart=>exact ⟨0,Nat.zero_le _,rfl,fun i h=>absurd h (Nat.not_lt_zero _),start _⟩
  case round =>
   obtain ⟨j,hj,rfl,heq,hbw⟩:=hrel;have HE:=A5 heq;clear heq
   by_cases hlt:j<l.length
   ·have hi0:(0:Int)<=(j:Int):=by omega
    have hi1:(j:Int)<(l.length:Int):=by omega
    cases hq:Ev.FQ l[j]
    ·have p1:wr.cell? ⟨b1,o1+j,none⟩=some (.int .i64 l[j]):=(hbw.cell (p:=⟨b1,_,none⟩) hb1).trans (by first|exact HC1.out j hlt|simpa using HC1.out j hlt);have HN:=A5 (L7 Ev.FQ AI 0 l j hlt (EW _ _ _ _ _ hlt hq));have HQ:=A5 (fun w=>BX l[j] false w hq);clear hq;go_wp2_with fail;refine (HQ.out _).mono ?_;rintro e w1 ⟨rfl,hb2⟩;replace hbw:=hbw.trans (hb2.mono hbw.size);clear hb2;go_wp2_with fail;go_ret;exact ⟨AA (by rw [HN.out]),hbw⟩
    ·have HQ:=A5 (fun w=>BX l[j] true w hq);rcases Nat.eq_zero_or_pos j with hz|hz
     ·subst hz;have p1:wr.cell? ⟨b1,o1,none⟩=some (.int .i64 l[0]):=(hbw.cell (p:=⟨b1,_,none⟩) hb1).trans (by first|exact HC1.out 0 hlt|simpa using HC1.out 0 hlt);have HN:=A5 (CL Ev.FQ AI 0 l 0 HE.out (by rw [I1 _ _ _ _ hlt];exact hq));clear hq;have g0:¬ (0:Int)<((0:Nat):Int):=by omega
      have g1:decide ((0:Int)<((0:Nat):Int))=false:=rfl;go_wp2_with fail;refine (HQ.out _).mono ?_;rintro e w1 ⟨rfl,hb2⟩;replace hbw:=hbw.trans (hb2.mono hbw.size);clear hb2;go_wp2_with fail
      go_roundw
      case rel=>exact ⟨1,by omega,by go_num,HN.out,hbw⟩
      case measure=>simp [intOf];omega
     ·obtain ⟨m,rfl⟩:∃ m,j=m+1:=⟨j-1,by omega⟩;have hlm:m<l.length:=Nat.lt_of_succ_lt hlt;have p1:wr.cell? ⟨b1,o1+(m+1),none⟩=some (.int .i64 l[(m+1)]):=(hbw.cell (p:=⟨b1,_,none⟩) hb1).trans (by first|exact HC1.out (m+1) hlt|simpa using HC1.out (m+1) hlt);have p0:wr.cell? ⟨b1,o1+m,none⟩=some (.int .i64 l[m]):=(hbw.cell (p:=⟨b1,_,none⟩) hb1).trans (by first|exact HC1.out m hlm|simpa using HC1.out m hlm);have g0:(0:Int)<((m+1:Nat):Int):=by omega
      have g1:decide ((0:Int)<((m+1:Nat):Int))=true:=z0H g0;have g2:((m+1:Nat):Int)-1=(m:Int):=by omega
      have g3:(0:Int)<=(m:Int):=by omega
      have g4:(m:Int)<(l.length:Int):=by omega
      have hs:=DP Ev.FQ AI 0 l m hlt;rw [hq,Bool.true_and] at hs;clear hq
      cases hc:AI l[m] l[m+1]
      ·have hd:decide (l[m+1]<=l[m])=true:=by unfold AI at hc;rw [decide_eq_false_iff_not] at hc;exact z0H (by omega)
       have hd2:l[m+1]<=l[m]:=of_decide_eq_true hd;have HN:=A5 (L7 Ev.FQ AI 0 l (m+1) hlt (by rw [hs,hc]));clear hs hc;go_wp2_with fail;refine (HQ.out _).mono ?_;rintro e w1 ⟨rfl,hb2⟩;replace hbw:=hbw.trans (hb2.mono hbw.size);have q0:=A9 hb2 p0;clear hb2;go_wp2_with fail;go_ret;exact ⟨AA (by rw [HN.out]),hbw⟩
      ·have hd:decide (l[m+1]<=l[m])=false:=by unfold AI at hc;rw [decide_eq_true_eq] at hc;exact z0G (by omega)
       have hd2:¬ l[m+1]<=l[m]:=of_decide_eq_false hd;have HN:=A5 (CL Ev.FQ AI 0 l (m+1) HE.out (by rw [hs,hc]));clear hs hc;go_wp2_with fail;refine (HQ.out _).mono ?_;rintro e w1 ⟨rfl,hb2⟩;replace hbw:=hbw.trans (hb2.mono hbw.size);have q0:=A9 hb2 p0;clear hb2;go_wp2_with fail
       go_roundw
       case rel=>exact ⟨m+1+1,by omega,by go_num,HN.out,hbw⟩
       case measure=>simp [intOf];omega
   ·obtain rfl:j=l.length:=by omega
    have HF:=A5 ((GG Ev.FQ AI 0 l).2 HE.out);go_wp2_with fail;go_ret;exact ⟨AA (by rw [HF.out]),hbw⟩
theorem P9 (A:Option Addr) (n c:Nat) (l:List Int) (w:World) (hl:BS w A l) (hn:n=l.length) (hsz:l.length<=100000) :
  Calls prog 81 #[.slice A n c] w (Ans w (.bool (Ev.EZ l))):=by
 subst hn
 by_cases h:1<=l.length/\l.length<=4
 ·have E:Hid (Ev.EZ l=WD Ev.CO AI 0 l):=A5 (by unfold Ev.EZ;rw [z0H h,Bool.true_and]);have H:=A5 (fun w=>MW 1 l.length 4 true w (by rw [AY];omega));have HA:=A5 (fun w hl=>tO A _ c l w hl rfl hsz);have HL:=A5 hl;clear h hl;go_enter func81,ntmps81;go_wp2_with fail;refine (H.out _).mono ?_;rintro e w' ⟨rfl,rfl⟩;go_wp2_with fail;refine (HA.out _ HL.out).mono ?_;rintro e w' ⟨rfl,hb⟩;go_wp2_with fail;go_ret;exact ⟨AA (by rw [E.out]),hb⟩
 ·have E:Hid (Ev.EZ l=false):=A5 (by unfold Ev.EZ;rw [z0G h,Bool.false_and]);have H:=A5 (fun w=>MW 1 l.length 4 false w (by rw [JU];omega));clear h hl;go_enter func81,ntmps81;go_wp2_with fail;refine (H.out _).mono ?_;rintro e w' ⟨rfl,rfl⟩;go_wp2_with fail;go_ret;exact ⟨AA (by rw [E.out]),start _⟩
theorem NU (A:Option Addr) (n c:Nat) (l:List Int) (w:World) (hl:BS w A l) (hn:n=l.length) (hsz:l.length<=100000) :
  Calls prog 116 #[.slice A n c] w (Ans w (.bool (Ev.exB l))):=by
 subst hn
 by_cases h:l.length<=12
 ·have E:Hid (Ev.exB l=WD Ev.FQ AI 0 l):=A5 (by unfold Ev.exB C0;rw [z0H h,Bool.true_and]);have d:decide ((l.length:Int)<=12)=true:=z0H (by omega);have HA:=A5 (fun w hl=>tP A _ c l w hl rfl hsz);have HL:=A5 hl;clear h hl;go_enter func116,ntmps116;go_wp2_with fail;refine (HA.out _ HL.out).mono ?_;rintro e w' ⟨rfl,hb⟩;go_wp2_with fail;go_ret;exact ⟨AA (by rw [E.out]),hb⟩
 ·have E:Hid (Ev.exB l=false):=A5 (by unfold Ev.exB C0;rw [z0G h,Bool.false_and]);have d:decide ((l.length:Int)<=12)=false:=z0G (by omega);clear h hl;go_enter func116,ntmps116;go_wp2_with fail;go_ret;exact ⟨AA (by rw [E.out]),start _⟩
theorem DX (A:Option Addr) (n c:Nat) (l:List Int) (b:Bool) (w:World) (hl:BS w A l) (hn:n=l.length) (hsz:l.length<=100000) (h:Ev.exB l=b) :
  Calls prog 116 #[.slice A n c] w (Ans w (.bool b)):=by subst h;exact NU A n c l w hl hn hsz
end Go.Proofs.YtfecnkhoojnkbaaGreatDoor

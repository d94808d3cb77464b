import Derived.Test.YtfecnkhoojnkbaaGreatDoorXEvF
import Derived.Test.YtfecnkhoojnkbaaGreatDoorXRuU
set_option maxHeartbeats 8000000
set_option maxRecDepth 1000000
namespace Go.Proofs.YtfecnkhoojnkbaaGreatDoor
open Go.RowKit Rul Rt Fo Go.Sort Tryz
theorem J1 (x:Int):Ev.PS x=true↔97<=x/\x<=122∨65<=x/\x<=90∨48<=x/\x<=57∨x=45:=by
 unfold Ev.PS;simp only [Bool.or_eq_true,AY,beq_iff_eq]
theorem xV (s:ByteArray) (w:World) (hs:s.size<=100000) :
  Calls prog 34 #[.string s] w fun e w'=>e=.returned (.bool (Ev.FT s.data.toList))/\w=w':=by
 go_enter func34,ntmps34;go_wp2_with fail
 go_loopw [3] (fun i wr=>∃ k:Nat,k<=s.size/\i=.int .i64 k/\Hid ((s.data.toList.take k).all Ev.OG=true)/\wr=w) (fun i _=>s.size-(intOf i).toNat)
 case atStart=>exact ⟨0,Nat.zero_le _,rfl,A5 rfl,rfl⟩
 case round =>
  obtain ⟨k,hk,rfl,HA,rfl⟩:=hrel
  by_cases hlt:k<s.size
  ·have hlt1:(k:Int)<(s.size:Int):=by omega
   have hk0:(0:Int)<=(k:Int):=by omega
   obtain ⟨c,hc⟩:∃ c,s[k]'hlt=c:=⟨_,rfl⟩;have hkl:k<s.data.toList.length:=by rw [AE];exact hlt
   have hcl:s.data.toList[k]=c:=by rw [E9 s k hlt,hc]
   have hyes:Ev.PS (c.toNat:Int)=true->(s.data.toList.take (k+1)).all Ev.OG=true:=fun hb=>MX Ev.OG s.data.toList k hkl HA.out (by rw [hcl];exact hb)
   have hno:Ev.PS (c.toNat:Int)=false->Ev.FT s.data.toList=false:=fun hb=>by
    unfold Ev.FT;rw [SX Ev.OG s.data.toList k hkl (by rw [hcl];exact hb),Bool.and_false]
   have h255:c.toNat<=255:=by have:=c.toNat_lt;omega
   clear hcl hkl;rcases (by omega:0<=(c.toNat:Int)/\(c.toNat:Int)<=44∨(c.toNat:Int)=45∨46<=(c.toNat:Int)/\(c.toNat:Int)<=47∨48<=(c.toNat:Int)/\(c.toNat:Int)<=57∨58<=(c.toNat:Int)/\(c.toNat:Int)<=64∨65<=(c.toNat:Int)/\(c.toNat:Int)<=90∨91<=(c.toNat:Int)/\(c.toNat:Int)<=96∨97<=(c.toNat:Int)/\(c.toNat:Int)<=122∨123<=(c.toNat:Int)/\(c.toNat:Int)<=255) with h|h|h|h|h|h|h|h|h
   ·have c0:0<=(c.toNat:Int):=by omega
    have a65:decide ((c.toNat:Int)<65)=true:=z0H (by omega);have a97:decide ((c.toNat:Int)<97)=true:=z0H (by omega);have a48:decide ((c.toNat:Int)<48)=true:=z0H (by omega);have b90:decide (90<(c.toNat:Int))=false:=z0G (by omega);have b122:decide (122<(c.toNat:Int))=false:=z0G (by omega);have b57:decide (57<(c.toNat:Int))=false:=z0G (by omega);have q:((c.toNat:Int)==45)=false:=by rw [beq_eq_false_iff_ne];omega
    have qn:((c.toNat:Int) != 45)=true:=by rw [bne,q];rfl
    have HF:=A5 (hno (by rw [<- Bool.not_eq_true];intro g;have:=(J1 _).1 g;omega));clear hyes hno h;go_wp2_with fail;go_ret;exact ⟨AA HF.out.symm,rfl⟩
   ·have c0:0<=(c.toNat:Int):=by omega
    have a65:decide ((c.toNat:Int)<65)=true:=z0H (by omega);have a97:decide ((c.toNat:Int)<97)=true:=z0H (by omega);have a48:decide ((c.toNat:Int)<48)=true:=z0H (by omega);have b90:decide (90<(c.toNat:Int))=false:=z0G (by omega);have b122:decide (122<(c.toNat:Int))=false:=z0G (by omega);have b57:decide (57<(c.toNat:Int))=false:=z0G (by omega);have q:((c.toNat:Int)==45)=true:=by rw [beq_iff_eq];exact h
    have qn:((c.toNat:Int) != 45)=false:=by rw [bne,q];rfl
    have HN:=A5 (hyes ((J1 _).2 (by omega)));clear hyes hno h;go_wp2_with fail
    go_roundw
    case rel=>exact ⟨k+1,by omega,by go_num,HN,by trivial⟩
    case measure=>simp [intOf];omega
   ·have c0:0<=(c.toNat:Int):=by omega
    have a65:decide ((c.toNat:Int)<65)=true:=z0H (by omega);have a97:decide ((c.toNat:Int)<97)=true:=z0H (by omega);have a48:decide ((c.toNat:Int)<48)=true:=z0H (by omega);have b90:decide (90<(c.toNat:Int))=false:=z0G (by omega);have b122:decide (122<(c.toNat:Int))=false:=z0G (by omega);have b57:decide (57<(c.toNat:Int))=false:=z0G (by omega);have q:((c.toNat:Int)==45)=false:=by rw [beq_eq_false_iff_ne];omega
    have qn:((c.toNat:Int) != 45)=true:=by rw [bne,q];rfl
    have HF:=A5 (hno (by rw [<- Bool.not_eq_true];intro g;have:=(J1 _).1 g;omega));clear hyes hno h;go_wp2_with fail;go_ret;exact ⟨AA HF.out.symm,rfl⟩
   ·have c0:0<=(c.toNat:Int):=by omega
    have a65:decide ((c.toNat:Int)<65)=true:=z0H (by omega);have a97:decide ((c.toNat:Int)<97)=true:=z0H (by omega);have a48:decide ((c.toNat:Int)<48)=false:=z0G (by omega);have b90:decide (90<(c.toNat:Int))=false:=z0G (by omega);have b122:decide (122<(c.toNat:Int))=false:=z0G (by omega);have b57:decide (57<(c.toNat:Int))=false:=z0G (by omega);have q:((c.toNat:Int)==45)=false:=by rw [beq_eq_false_iff_ne];omega
    have qn:((c.toNat:Int) != 45)=true:=by rw [bne,q];rfl
    have HN:=A5 (hyes ((J1 _).2 (by omega)));clear hyes hno h;go_wp2_with fail
    go_roundw
    case rel=>exact ⟨k+1,by omega,by go_num,HN,by trivial⟩
    case measure=>simp [intOf];omega
   ·have c0:0<=(c.toNat:Int):=by omega
    have a65:decide ((c.toNat:Int)<65)=true:=z0H (by omega);have a97:decide ((c.toNat:Int)<97)=true:=z0H (by omega);have a48:decide ((c.toNat:Int)<48)=false:=z0G (by omega);have b90:decide (90<(c.toNat:Int))=false:=z0G (by omega);have b122:decide (122<(c.toNat:Int))=false:=z0G (by omega);have b57:decide (57<(c.toNat:Int))=true:=z0H (by omega);have q:((c.toNat:Int)==45)=false:=by rw [beq_eq_false_iff_ne];omega
    have qn:((c.toNat:Int) != 45)=true:=by rw [bne,q];rfl
    have HF:=A5 (hno (by rw [<- Bool.not_eq_true];intro g;have:=(J1 _).1 g;omega));clear hyes hno h;go_wp2_with fail;go_ret;exact ⟨AA HF.out.symm,rfl⟩
   ·have c0:0<=(c.toNat:Int):=by omega
    have a65:decide ((c.toNat:Int)<65)=false:=z0G (by omega);have a97:decide ((c.toNat:Int)<97)=true:=z0H (by omega);have a48:decide ((c.toNat:Int)<48)=false:=z0G (by omega);have b90:decide (90<(c.toNat:Int))=false:=z0G (by omega);have b122:decide (122<(c.toNat:Int))=false:=z0G (by omega);have b57:decide (57<(c.toNat:Int))=true:=z0H (by omega);have q:((c.toNat:Int)==45)=false:=by rw [beq_eq_false_iff_ne];omega
    have qn:((c.toNat:Int) != 45)=true:=by rw [bne,q];rfl
    have HN:=A5 (hyes ((J1 _).2 (by omega)));clear hyes hno h;go_wp2_with fail
    go_roundw
    case rel=>exact ⟨k+1,by omega,by go_num,HN,by trivial⟩
    case measure=>simp [intOf];omega
   ·have c0:0<=(c.toNat:Int):=by omega
    have a65:decide ((c.toNat:Int)<65)=false:=z0G (by omega);have a97:decide ((c.toNat:Int)<97)=true:=z0H (by omega);have a48:decide ((c.toNat:Int)<48)=false:=z0G (by omega);have b90:decide (90<(c.toNat:Int))=true:=z0H (by omega);have b122:decide (122<(c.toNat:Int))=false:=z0G (by omega);have b57:decide (57<(c.toNat:Int))=true:=z0H (by omega);have q:((c.toNat:Int)==45)=false:=by rw [beq_eq_false_iff_ne];omega
    have qn:((c.toNat:Int) != 45)=true:=by rw [bne,q];rfl
    have HF:=A5 (hno (by rw [<- Bool.not_eq_true];intro g;have:=(J1 _).1 g;omega));clear hyes hno h;go_wp2_with fail;go_ret;exact ⟨AA HF.out.symm,rfl⟩
   ·have c0:0<=(c.toNat:Int):=by omega
    have a65:decide ((c.toNat:Int)<65)=false:=z0G (by omega);have a97:decide ((c.toNat:Int)<97)=false:=z0G (by omega);have a48:decide ((c.toNat:Int)<48)=false:=z0G (by omega);have b90:decide (90<(c.toNat:Int))=true:=z0H (by omega);have b122:decide (122<(c.toNat:Int))=false:=z0G (by omega);have b57:decide (57<(c.toNat:Int))=true:=z0H (by omega);have q:((c.toNat:Int)==45)=false:=by rw [beq_eq_false_iff_ne];omega
    have qn:((c.toNat:Int) != 45)=true:=by rw [bne,q];rfl
    have HN:=A5 (hyes ((J1 _).2 (by omega)));clear hyes hno h;go_wp2_with fail
    go_roundw
    case rel=>exact ⟨k+1,by omega,by go_num,HN,by trivial⟩
    case measure=>simp [intOf];omega
   ·have c0:0<=(c.toNat:Int):=by omega
    have a65:decide ((c.toNat:Int)<65)=false:=z0G (by omega);have a97:decide ((c.toNat:Int)<97)=false:=z0G (by omega);have a48:decide ((c.toNat:Int)<48)=false:=z0G (by omega);have b90:decide (90<(c.toNat:Int))=true:=z0H (by omega);have b122:decide (122<(c.toNat:Int))=true:=z0H (by omega);have b57:decide (57<(c.toNat:Int))=true:=z0H (by omega);have q:((c.toNat:Int)==45)=false:=by rw [beq_eq_false_iff_ne];omega
    have qn:((c.toNat:Int) != 45)=true:=by rw [bne,q];rfl
    have HF:=A5 (hno (by rw [<- Bool.not_eq_true];intro g;have:=(J1 _).1 g;omega));clear hyes hno h;go_wp2_with fail;go_ret;exact ⟨AA HF.out.symm,rfl⟩
  ·obtain rfl:k=s.size:=by omega
   have HF:Hid (s.data.toList.all Ev.OG=true):=A5 (by
    have h:=HA.out;rw [List.take_of_length_le (by rw [AE];omega)] at h;exact h)
   by_cases e1:1<=s.size
   ·have i1:(1:Int)<=(s.size:Int):=by omega
    by_cases e2:s.size<=12
    ·have i2:(s.size:Int)<=12:=by omega
     have HV:Hid (Ev.FT s.data.toList=true):=A5 (by unfold Ev.FT;rw [HF.out,AE,z0H ⟨e1,e2⟩];rfl);clear HF;go_wp2_with fail;go_ret;exact ⟨AA HV.out.symm,rfl⟩
    ·have i2:¬ (s.size:Int)<=12:=by omega
     have HV:Hid (Ev.FT s.data.toList=false):=A5 (by unfold Ev.FT;rw [AE,z0G (fun g=>e2 g.2)];rfl);clear HF;go_wp2_with fail;go_ret;exact ⟨AA HV.out.symm,rfl⟩
   ·have i1:¬ (1:Int)<=(s.size:Int):=by omega
    have HV:Hid (Ev.FT s.data.toList=false):=A5 (by unfold Ev.FT;rw [AE,z0G (fun g=>e1 g.1)];rfl);clear HF;go_wp2_with fail;go_ret;exact ⟨AA HV.out.symm,rfl⟩
theorem MO (x:Int):Ev.NY x=true↔32<=x/\x<=126∨x=10:=by
 unfold Ev.NY;simp only [Bool.or_eq_true,AY,beq_iff_eq]
theorem qS (s:ByteArray) (w:World) (hs:s.size<=100000) :
  Calls prog 35 #[.string s] w fun e w'=>e=.returned (.bool (Ev.E0 s.data.toList))/\w=w':=by
 go_enter func35,ntmps35;go_wp2_with fail
 go_loopw [3] (fun i wr=>∃ k:Nat,k<=s.size/\i=.int .i64 k/\Hid ((s.data.toList.take k).all Ev.CK=true)/\wr=w) (fun i _=>s.size-(intOf i).toNat)
 case atStart=>exact ⟨0,Nat.zero_le _,rfl,A5 rfl,rfl⟩
 case round =>
  obtain ⟨k,hk,rfl,HA,rfl⟩:=hrel
  by_cases hlt:k<s.size
  ·have hlt1:(k:Int)<(s.size:Int):=by omega
   have hk0:(0:Int)<=(k:Int):=by omega
   obtain ⟨c,hc⟩:∃ c,s[k]'hlt=c:=⟨_,rfl⟩;have hkl:k<s.data.toList.length:=by rw [AE];exact hlt
   have hcl:s.data.toList[k]=c:=by rw [E9 s k hlt,hc]
   have hyes:Ev.NY (c.toNat:Int)=true->(s.data.toList.take (k+1)).all Ev.CK=true:=fun hb=>MX Ev.CK s.data.toList k hkl HA.out (by rw [hcl];exact hb)
   have hno:Ev.NY (c.toNat:Int)=false->Ev.E0 s.data.toList=false:=fun hb=>by
    unfold Ev.E0;rw [SX Ev.CK s.data.toList k hkl (by rw [hcl];exact hb),Bool.and_false]
   have h255:c.toNat<=255:=by have:=c.toNat_lt;omega
   clear hcl hkl;rcases (by omega:0<=(c.toNat:Int)/\(c.toNat:Int)<=9∨(c.toNat:Int)=10∨11<=(c.toNat:Int)/\(c.toNat:Int)<=31∨32<=(c.toNat:Int)/\(c.toNat:Int)<=126∨127<=(c.toNat:Int)/\(c.toNat:Int)<=255) with h|h|h|h|h
   ·have c0:0<=(c.toNat:Int):=by omega
    have a32:decide ((c.toNat:Int)<32)=true:=z0H (by omega);have b126:decide (126<(c.toNat:Int))=false:=z0G (by omega);have q:((c.toNat:Int)==10)=false:=by rw [beq_eq_false_iff_ne];omega
    have qn:((c.toNat:Int) != 10)=true:=by rw [bne,q];rfl
    have HF:=A5 (hno (by rw [<- Bool.not_eq_true];intro g;have:=(MO _).1 g;omega));clear hyes hno h;go_wp2_with fail;go_ret;exact ⟨AA HF.out.symm,rfl⟩
   ·have c0:0<=(c.toNat:Int):=by omega
    have a32:decide ((c.toNat:Int)<32)=true:=z0H (by omega);have b126:decide (126<(c.toNat:Int))=false:=z0G (by omega);have q:((c.toNat:Int)==10)=true:=by rw [beq_iff_eq];exact h
    have qn:((c.toNat:Int) != 10)=false:=by rw [bne,q];rfl
    have HN:=A5 (hyes ((MO _).2 (by omega)));clear hyes hno h;go_wp2_with fail
    go_roundw
    case rel=>exact ⟨k+1,by omega,by go_num,HN,by trivial⟩
    case measure=>simp [intOf];omega
   ·have c0:0<=(c.toNat:Int):=by omega
    have a32:decide ((c.toNat:Int)<32)=true:=z0H (by omega);have b126:decide (126<(c.toNat:Int))=false:=z0G (by omega);have q:((c.toNat:Int)==10)=false:=by rw [beq_eq_false_iff_ne];omega
    have qn:((c.toNat:Int) != 10)=true:=by rw [bne,q];rfl
    have HF:=A5 (hno (by rw [<- Bool.not_eq_true];intro g;have:=(MO _).1 g;omega));clear hyes hno h;go_wp2_with fail;go_ret;exact ⟨AA HF.out.symm,rfl⟩
   ·have c0:0<=(c.toNat:Int):=by omega
    have a32:decide ((c.toNat:Int)<32)=false:=z0G (by omega);have b126:decide (126<(c.toNat:Int))=false:=z0G (by omega);have q:((c.toNat:Int)==10)=false:=by rw [beq_eq_false_iff_ne];omega
    have qn:((c.toNat:Int) != 10)=true:=by rw [bne,q];rfl
    have HN:=A5 (hyes ((MO _).2 (by omega)));clear hyes hno h;go_wp2_with fail
    go_roundw
    case rel=>exact ⟨k+1,by omega,by go_num,HN,by trivial⟩
    case measure=>simp [intOf];omega
   ·have c0:0<=(c.toNat:Int):=by omega
    have a32:decide ((c.toNat:Int)<32)=false:=z0G (by omega);have b126:decide (126<(c.toNat:Int))=true:=z0H (by omega);have q:((c.toNat:Int)==10)=false:=by rw [beq_eq_false_iff_ne];omega
    have qn:((c.toNat:Int) != 10)=true:=by rw [bne,q];rfl
    have HF:=A5 (hno (by rw [<- Bool.not_eq_true];intro g;have:=(MO _).1 g;omega));clear hyes hno h;go_wp2_with fail;go_ret;exact ⟨AA HF.out.symm,rfl⟩
  ·obtain rfl:k=s.size:=by omega
   have HF:Hid (s.data.toList.all Ev.CK=true):=A5 (by
    have h:=HA.out;rw [List.take_of_length_le (by rw [AE];omega)] at h;exact h)
   by_cases e2:s.size<=40
   ·have i2:(s.size:Int)<=40:=by omega
    have HV:Hid (Ev.E0 s.data.toList=true):=A5 (by unfold Ev.E0;rw [HF.out,AE,z0H e2];rfl);clear HF;go_wp2_with fail;go_ret;exact ⟨AA HV.out.symm,rfl⟩
   ·have i2:¬ (s.size:Int)<=40:=by omega
    have HV:Hid (Ev.E0 s.data.toList=false):=A5 (by unfold Ev.E0;rw [AE,z0G e2];rfl);clear HF;go_wp2_with fail;go_ret;exact ⟨AA HV.out.symm,rfl⟩
theorem Q3 (A:Option Addr) (n c:Nat) (l:List Int) (w:World) (hl:BS w A l) (hn:n=l.length) (hsz:l.length<=100000) :
  Calls prog 37 #[.slice A n c] w (Ans w (.bool (Ev.exB l))):=by
 subst hn;have HL:=A5 hl;clear hl;go_enter func37,ntmps37;go_wp2_with fail
 go_loopw [3] (fun i wr=>∃ j:Nat,j<=l.length/\i=.int .i64 j/\Hid (∀ i,i<j->F0 Ev.FQ AI 0 l i=true)/\Below w.heap.size w wr) (fun i _=>l.length-(intOf i).toNat)
 case atStart=>exact ⟨0,Nat.zero_le _,rfl,A5 (fun i h=>absurd h (Nat.not_lt_zero _)),start _⟩
 case round =>
  obtain ⟨j,hj,rfl,HE,hbw⟩:=hrel;have HBR:=A5 hbw;clear hbw
  by_cases hlt:j<l.length
  ·obtain ⟨b1,o1,rfl,hb1,hc1⟩:=HL.out (by intro h0;rw [h0] at hlt;exact absurd hlt (Nat.not_lt_zero _));obtain ⟨z,hz⟩:∃ z,l[j]=z:=⟨_,rfl⟩;have p1:wr.cell? ⟨b1,o1+j,none⟩=some (.int .i64 z):=by rw [<- hz];exact (HBR.out.cell (p:=⟨b1,_,none⟩) hb1).trans (hc1 j hlt)
   have hi0:(0:Int)<=(j:Int):=by omega
   have hi1:(j:Int)<(l.length:Int):=by omega
   have HB2:=A5 (fun a=>AJ HBR.out a);have hno:F0 Ev.FQ AI 0 l j=false->Ev.exB l=false:=fun h=>by
    unfold Ev.exB C0;rw [L7 Ev.FQ AI 0 l j hlt h,Bool.and_false]
   have hbad:Ev.FQ z=false->Ev.exB l=false:=fun h=>hno (EW _ _ _ _ _ hlt (by rw [hz];exact h))
   by_cases hz0:z<0
   ·have d1:decide (z<0)=true:=z0H hz0;have HF:=A5 (hbad (by rw [<- Bool.not_eq_true,Ev.F3];omega));clear hbad hno hz hc1;go_wp2_with fail;go_quiet (fail);have HB3:=A5 (HB2.out nq);generalize wr.drewN nq=wq at *;clear HB2;go_wp2_with fail;go_ret;exact ⟨AA HF.out.symm,HB3.out⟩
   ·have d1:decide (z<0)=false:=z0G hz0
    by_cases hzm:(52596000:Int)<=z
    ·have d2:decide ((52596000:Int)<=z)=true:=z0H hzm;have HF:=A5 (hbad (by rw [<- Bool.not_eq_true,Ev.F3];omega));clear hbad hno hz hc1;go_wp2_with fail;go_quiet (fail);have HB3:=A5 (HB2.out nq);generalize wr.drewN nq=wq at *;clear HB2;go_wp2_with fail;go_ret;exact ⟨AA HF.out.symm,HB3.out⟩
    ·have d2:decide ((52596000:Int)<=z)=false:=z0G hzm;have hm:Ev.FQ z=true:=(Ev.F3 z).2 (by omega);rcases Nat.eq_zero_or_pos j with h0|h0
     ·subst h0;rw [Nat.add_zero] at p1;have HN:=A5 (CL Ev.FQ AI 0 l 0 HE.out (by rw [I1 _ _ _ _ hlt,hz];exact hm));have g1:decide ((0:Int)<((0:Nat):Int))=false:=rfl;clear hbad hno hz hc1;go_wp2_with fail;go_quiet (fail);have HB3:=A5 (HB2.out nq);generalize wr.drewN nq=wq at *;clear HB2;go_wp2_with fail
      go_roundw
      case rel=>exact ⟨1,by omega,by go_num,A5 HN.out,HB3.out⟩
      case measure=>simp [intOf];omega
     ·obtain ⟨q,rfl⟩:∃ q,j=q+1:=⟨j-1,by omega⟩;have hlq:q<l.length:=Nat.lt_of_succ_lt hlt;obtain ⟨y,hy⟩:∃ y,l[q]=y:=⟨_,rfl⟩;have p0:wr.cell? ⟨b1,o1+q,none⟩=some (.int .i64 y):=by rw [<- hy];exact (HBR.out.cell (p:=⟨b1,_,none⟩) hb1).trans (hc1 q hlq)
      have g0:(0:Int)<((q+1:Nat):Int):=by omega
      have g1:decide ((0:Int)<((q+1:Nat):Int))=true:=z0H g0;have g2:((q+1:Nat):Int)-1=(q:Int):=by omega
      have g3:(0:Int)<=(q:Int):=by omega
      have g4:(q:Int)<(l.length:Int):=by omega
      have hs:=DP Ev.FQ AI 0 l q hlt;rw [hz,hy,hm,Bool.true_and] at hs
      cases hc:AI y z
      ·have hd:decide (z<=y)=true:=by unfold AI at hc;rw [decide_eq_false_iff_not] at hc;exact z0H (by omega)
       have hd2:z<=y:=of_decide_eq_true hd;have HF:=A5 (hno (by rw [hs,hc]));clear hbad hno hz hy hc1 hs hc hm;go_wp2_with fail;go_quiet (fail);have HB3:=A5 (HB2.out nq);generalize wr.drewN nq=wq at *;clear HB2;go_wp2_with fail;go_ret;exact ⟨AA HF.out.symm,HB3.out⟩
      ·have hd:decide (z<=y)=false:=by unfold AI at hc;rw [decide_eq_true_eq] at hc;exact z0G (by omega)
       have hd2:¬ z<=y:=of_decide_eq_false hd;have HN:=A5 (CL Ev.FQ AI 0 l (q+1) HE.out (by rw [hs,hc]));clear hbad hno hz hy hc1 hs hc hm;go_wp2_with fail;go_quiet (fail);have HB3:=A5 (HB2.out nq);generalize wr.drewN nq=wq at *;clear HB2;go_wp2_with fail
       go_roundw
       case rel=>exact ⟨q+1+1,by omega,by go_num,A5 HN.out,HB3.out⟩
       case measure=>simp [intOf];omega
  ·obtain rfl:j=l.length:=by omega
   have hA:=(GG Ev.FQ AI 0 l).2 HE.out
   by_cases e2:l.length<=12
   ·have i2:(l.length:Int)<=12:=by omega
    have HV:Hid (Ev.exB l=true):=A5 (by unfold Ev.exB C0;rw [hA,z0H e2];rfl);clear hA HE;go_wp2_with fail;go_ret;exact ⟨AA HV.out.symm,HBR.out⟩
   ·have i2:¬ (l.length:Int)<=12:=by omega
    have HV:Hid (Ev.exB l=false):=A5 (by unfold Ev.exB C0;rw [z0G e2];rfl);clear hA HE;go_wp2_with fail;go_ret;exact ⟨AA HV.out.symm,HBR.out⟩
theorem fG (A B:Option Addr) (n m c d:Nat) (l k:List Int) (w:World) (hl:BS w A l) (hk:BS w B k) (hn:n=l.length) (hm:m=k.length) (hsz:l.length<=1000000) (hsk:k.length<=1000000) :
  Calls prog 50 #[.slice A n c,.slice B m d] w (Ans w (.bool (decide (l=k)))):=by
 subst hn hm
 by_cases hlen:l.length=k.length
 ·by_cases hnil:l=[]
  ·subst hnil;have hkn:k=[]:=List.eq_nil_of_length_eq_zero hlen.symm;subst hkn;go_enter func50,ntmps50;go_wp2_with fail;refine wp_loop_rounds 1 ?_;rw [rounds_succ];go_wp2_with fail;go_ret;exact ⟨rfl,start _⟩
  ·obtain ⟨b1,o1,rfl,hb1,hc1⟩:=hl hnil;obtain ⟨b2,o2,rfl,hb2,hc2⟩:=hk (by rintro rfl;exact hnil (List.eq_nil_of_length_eq_zero hlen));have HC1:=A5 hc1;have HC2:=A5 hc2;have HL:=A5 hlen;rw [<- hlen];clear hl hk hc1 hc2 hlen hnil;go_enter func50,ntmps50;go_wp2_with fail
   go_loopw [5] (fun i wr=>∃ j:Nat,j<=l.length/\i=.int .i64 j/\l.take j=k.take j/\Below w.heap.size w wr) (fun i _=>l.length-(intOf i).toNat)
   case atStart=>exact ⟨0,Nat.zero_le _,rfl,rfl,start _⟩
   case round =>
    obtain ⟨j,hj,rfl,heq,hbw⟩:=hrel;have HE:=A5 heq;clear heq
    by_cases hlt:j<l.length
    ·have hlk:j<k.length:=by have:=HL.out;omega
     have p1:wr.cell? ⟨b1,o1+j,none⟩=some (.int .i64 l[j]):=(hbw.cell (p:=⟨b1,_,none⟩) hb1).trans (HC1.out j hlt);have p3:wr.cell? ⟨b2,o2+j,none⟩=some (.int .i64 k[j]):=(hbw.cell (p:=⟨b2,_,none⟩) hb2).trans (HC2.out j hlk);have hi0:(0:Int)<=(j:Int):=by omega
     have hi1:(j:Int)<(l.length:Int):=by omega
     cases e1:(l[j]==k[j])
     ·have HN:Hid (l≠k):=by
       show l≠k
       refine LK hlt hlk fun h=>?_
       rw [h,beq_self_eq_true] at e1;cases e1
      have e9:(l[j] != k[j])=true:=by rw [bne,e1];rfl
      go_wp2_with fail;go_quiet (fail);go_wp2_with fail;go_ret;exact ⟨AA (z0G HN.out).symm,AJ hbw _⟩
     ·have HN:Hid (l.take (j+1)=k.take (j+1)):=by
       show l.take (j+1)=k.take (j+1)
       rw [List.take_succ_eq_append_getElem hlt,List.take_succ_eq_append_getElem hlk,HE.out]
       congr 2
       exact by simpa using e1
      have e9:(l[j] != k[j])=false:=by rw [bne,e1];rfl
      go_wp2_with fail;go_quiet (fail);go_wp2_with fail
      go_roundw
      case rel=>exact ⟨j+1,by omega,by go_num,HN.out,AJ hbw _⟩
      case measure=>simp [intOf];omega
    ·obtain rfl:j=l.length:=by omega
     have HF:Hid (l=k):=MP HL.out HE.out;go_wp2_with fail;go_ret;exact ⟨AA (z0H HF.out).symm,hbw⟩
 ·have HF:Hid (l≠k):=fun h=>hlen (by rw [h])
  have e0:(l.length==k.length)=false:=by rw [beq_eq_false_iff_ne];exact hlen
  have e1:((l.length:Int)==(k.length:Int))=false:=by rw [beq_eq_false_iff_ne];omega
  have e2:((l.length:Int) != (k.length:Int))=true:=by rw [bne_iff_ne];omega
  clear hl hk;go_enter func50,ntmps50;go_wp2_with fail;go_ret;exact ⟨AA (z0G HF.out).symm,start _⟩
theorem qT (e f:Ev.E):Ev.S8 e f=((e.uid==f.uid)&&((e.text==f.text)&&((e.st==f.st)&&((e.lg==f.lg)&&(decide (e.rooms=f.rooms)&&(C9 e.r f.r&&decide (e.ex=f.ex))))))):=by
 rw [Bool.eq_iff_iff];unfold Ev.S8;rw [AO,AO];simp only [Bool.and_eq_true,decide_eq_true_eq,beq_iff_eq]
 constructor
 ·rintro ⟨a,b,c,d,e,f,g⟩;exact ⟨a,b,c,d,g,e,f⟩
 ·rintro ⟨a,b,c,d,g,e,f⟩;exact ⟨a,b,c,d,e,f,g⟩
set_option linter.unusedSimpArgs false in
theorem qU (e f:Ev.E) (m n:Mem) (w:World) (h:EvL w e m) (k:EvL w f n) :
  Calls prog 24 #[evV e m,evV f n] w (Ans w (.bool (Ev.S8 e f))):=by
 have key:∀ (z0 z1 z2 z3 z4 z5:Bool),(e.uid==f.uid)=z0->(e.text==f.text)=z1->(e.st==f.st)=z2->(e.lg==f.lg)=z3->decide (e.rooms=f.rooms)=z4->C9 e.r f.r=z5->Calls prog 24 #[evV e m,evV f n] w (Ans w (.bool (z0&&(z1&&(z2&&(z3&&(z4&&(z5&&decide (e.ex=f.ex))))))))):=by
  intro z0 z1 z2 z3 z4 z5 h0 h1 h2 h3 h4 h5;have HBX:=A5 (more (more (start w) (.cells #[.string (str e.uid),.string (str e.text),.int .i64 e.st,.int .i64 e.lg,.slice m.O e.rooms.length m.oc,.int .i64 e.r.fr,.int .i64 e.r.ev,.int .i64 e.r.ct,.int .i64 e.r.un,.slice m.D e.r.ds.length m.dc,.slice m.M e.r.ms.length m.mc,.slice m.Y e.r.ys.length m.yc,.slice m.X e.ex.length m.xc] 47)) (.cells #[.string (str f.uid),.string (str f.text),.int .i64 f.st,.int .i64 f.lg,.slice n.O f.rooms.length n.oc,.int .i64 f.r.fr,.int .i64 f.r.ev,.int .i64 f.r.ct,.int .i64 f.r.un,.slice n.D f.r.ds.length n.dc,.slice n.M f.r.ms.length n.mc,.slice n.Y f.r.ys.length n.yc,.slice n.X f.ex.length n.xc] 47));have HL:=A5 (h.keep HBX.out);have KL:=A5 (k.keep HBX.out);have hol:=h.ol;have kol:=k.ol;have hxl:=h.xl;have kxl:=k.xl;have C4:=A5 (fun w (a:EvL w e m) (b:EvL w f n)=>AF (fG m.O n.O e.rooms.length f.rooms.length m.oc n.oc e.rooms f.rooms w a.o b.o rfl rfl (by omega) (by omega)) h4);have C5:=A5 (fun w (a:EvL w e m) (b:EvL w f n)=>AF (R.E7 e.r.fr e.r.ev e.r.ct e.r.un m.D m.M m.Y e.r.ds.length m.dc e.r.ms.length m.mc e.r.ys.length m.yc f.r.fr f.r.ev f.r.ct f.r.un n.D n.M n.Y f.r.ds.length n.dc f.r.ms.length n.mc f.r.ys.length n.yc e.r.ds e.r.ms e.r.ys f.r.ds f.r.ms f.r.ys w a.r b.r) h5);have C6:=A5 (fun w (a:EvL w e m) (b:EvL w f n)=>fG m.X n.X e.ex.length f.ex.length m.xc n.xc e.ex f.ex w a.x b.x rfl rfl (by omega) (by omega));clear h k h4 h5 hol kol hxl kxl;generalize decide (e.ex=f.ex)=RB at *;obtain ⟨u,t,s,l,o,⟨fr,ev,ct,un,ds,ms,ys⟩,x⟩:=e;obtain ⟨O,oc,D,dc,M,mc,Y,yc,X,xc⟩:=m;obtain ⟨u2,t2,s2,l2,o2,⟨fr2,ev2,ct2,un2,ds2,ms2,ys2⟩,x2⟩:=f;obtain ⟨O2,oc2,D2,dc2,M2,mc2,Y2,yc2,X2,xc2⟩:=n;simp only [evV] at HBX HL KL C4 C5 C6 h0 h1 h2 h3 ⊢;have hAC:∀ i v,(#[.string (str u),.string (str t),.int .i64 s,.int .i64 l,.slice O o.length oc,.int .i64 fr,.int .i64 ev,.int .i64 ct,.int .i64 un,.slice D ds.length dc,.slice M ms.length mc,.slice Y ys.length yc,.slice X x.length xc]:Array Value)[i]?=some v->((w.alloc (.cells #[.string (str u),.string (str t),.int .i64 s,.int .i64 l,.slice O o.length oc,.int .i64 fr,.int .i64 ev,.int .i64 ct,.int .i64 un,.slice D ds.length dc,.slice M ms.length mc,.slice Y ys.length yc,.slice X x.length xc] 47)).alloc (.cells #[.string (str u2),.string (str t2),.int .i64 s2,.int .i64 l2,.slice O2 o2.length oc2,.int .i64 fr2,.int .i64 ev2,.int .i64 ct2,.int .i64 un2,.slice D2 ds2.length dc2,.slice M2 ms2.length mc2,.slice Y2 ys2.length yc2,.slice X2 x2.length xc2] 47)).cell? ⟨w.heap.size,i,none⟩=some v:=fun i v h=>tQ w _ _ _ _ i v h
  have a0:=hAC 0 _ rfl;have a1:=hAC 1 _ rfl;have a2:=hAC 2 _ rfl;have a3:=hAC 3 _ rfl;have a4:=hAC 4 _ rfl;have a5:=hAC 5 _ rfl;have a6:=hAC 6 _ rfl;have a7:=hAC 7 _ rfl;have a8:=hAC 8 _ rfl;have a9:=hAC 9 _ rfl;have a10:=hAC 10 _ rfl;have a11:=hAC 11 _ rfl;have a12:=hAC 12 _ rfl;clear hAC;have hAC:∀ i v,(#[.string (str u2),.string (str t2),.int .i64 s2,.int .i64 l2,.slice O2 o2.length oc2,.int .i64 fr2,.int .i64 ev2,.int .i64 ct2,.int .i64 un2,.slice D2 ds2.length dc2,.slice M2 ms2.length mc2,.slice Y2 ys2.length yc2,.slice X2 x2.length xc2]:Array Value)[i]?=some v->((w.alloc (.cells #[.string (str u),.string (str t),.int .i64 s,.int .i64 l,.slice O o.length oc,.int .i64 fr,.int .i64 ev,.int .i64 ct,.int .i64 un,.slice D ds.length dc,.slice M ms.length mc,.slice Y ys.length yc,.slice X x.length xc] 47)).alloc (.cells #[.string (str u2),.string (str t2),.int .i64 s2,.int .i64 l2,.slice O2 o2.length oc2,.int .i64 fr2,.int .i64 ev2,.int .i64 ct2,.int .i64 un2,.slice D2 ds2.length dc2,.slice M2 ms2.length mc2,.slice Y2 ys2.length yc2,.slice X2 x2.length xc2] 47)).cell? ⟨w.heap.size+1,i,none⟩=some v:=fun i v h=>o9 w _ _ _ _ i v h
  have b0:=hAC 0 _ rfl;have b1:=hAC 1 _ rfl;have b2:=hAC 2 _ rfl;have b3:=hAC 3 _ rfl;have b4:=hAC 4 _ rfl;have b5:=hAC 5 _ rfl;have b6:=hAC 6 _ rfl;have b7:=hAC 7 _ rfl;have b8:=hAC 8 _ rfl;have b9:=hAC 9 _ rfl;have b10:=hAC 10 _ rfl;have b11:=hAC 11 _ rfl;have b12:=hAC 12 _ rfl;clear hAC;have q1:=AH u;have q2:=AH t;have q3:=AH u2;have q4:=AH t2
  cases z0
  ·simp only [Bool.false_and,Bool.true_and];go_enter func24,ntmps24;go_wp2_with fail;go_ret;exact ⟨rfl,HBX.out⟩
  cases z1
  ·simp only [Bool.false_and,Bool.true_and];go_enter func24,ntmps24;go_wp2_with fail;go_ret;exact ⟨rfl,HBX.out⟩
  cases z2
  ·simp only [Bool.false_and,Bool.true_and];go_enter func24,ntmps24;go_wp2_with fail;go_ret;exact ⟨rfl,HBX.out⟩
  cases z3
  ·simp only [Bool.false_and,Bool.true_and];go_enter func24,ntmps24;go_wp2_with fail;go_ret;exact ⟨rfl,HBX.out⟩
  cases z4
  ·simp only [Bool.false_and,Bool.true_and];go_enter func24,ntmps24;go_wp2_with fail;refine (C4.out _ HL.out KL.out).mono ?_;rintro e w1 ⟨rfl,hb⟩;replace HBX:=A5 (andthen HBX.out hb);replace HL:=A5 (HL.out.keep hb);replace KL:=A5 (KL.out.keep hb);replace a4:=A9 hb a4;replace b4:=A9 hb b4;replace a5:=A9 hb a5;replace b5:=A9 hb b5;replace a6:=A9 hb a6;replace b6:=A9 hb b6;replace a7:=A9 hb a7;replace b7:=A9 hb b7;replace a8:=A9 hb a8;replace b8:=A9 hb b8;replace a9:=A9 hb a9;replace b9:=A9 hb b9;replace a10:=A9 hb a10;replace b10:=A9 hb b10;replace a11:=A9 hb a11;replace b11:=A9 hb b11;replace a12:=A9 hb a12;replace b12:=A9 hb b12;clear hb;go_wp2_with fail;go_ret;exact ⟨rfl,HBX.out⟩
  cases z5
  ·simp only [Bool.false_and,Bool.true_and];go_enter func24,ntmps24;go_wp2_with fail;refine (C4.out _ HL.out KL.out).mono ?_;rintro e w1 ⟨rfl,hb⟩;replace HBX:=A5 (andthen HBX.out hb);replace HL:=A5 (HL.out.keep hb);replace KL:=A5 (KL.out.keep hb);replace a4:=A9 hb a4;replace b4:=A9 hb b4;replace a5:=A9 hb a5;replace b5:=A9 hb b5;replace a6:=A9 hb a6;replace b6:=A9 hb b6;replace a7:=A9 hb a7;replace b7:=A9 hb b7;replace a8:=A9 hb a8;replace b8:=A9 hb b8;replace a9:=A9 hb a9;replace b9:=A9 hb b9;replace a10:=A9 hb a10;replace b10:=A9 hb b10;replace a11:=A9 hb a11;replace b11:=A9 hb b11;replace a12:=A9 hb a12;replace b12:=A9 hb b12;clear hb;go_wp2_with fail;refine (C5.out _ HL.out KL.out).mono ?_;rintro e w1 ⟨rfl,hb⟩;replace HBX:=A5 (andthen HBX.out hb);replace HL:=A5 (HL.out.keep hb);replace KL:=A5 (KL.out.keep hb);replace a12:=A9 hb a12;replace b12:=A9 hb b12;clear hb;go_wp2_with fail;go_ret;exact ⟨rfl,HBX.out⟩
  simp only [Bool.false_and,Bool.true_and];go_enter func24,ntmps24;go_wp2_with fail;refine (C4.out _ HL.out KL.out).mono ?_;rintro e w1 ⟨rfl,hb⟩;replace HBX:=A5 (andthen HBX.out hb);replace HL:=A5 (HL.out.keep hb);replace KL:=A5 (KL.out.keep hb);replace a4:=A9 hb a4;replace b4:=A9 hb b4;replace a5:=A9 hb a5;replace b5:=A9 hb b5;replace a6:=A9 hb a6;replace b6:=A9 hb b6;replace a7:=A9 hb a7;replace b7:=A9 hb b7;replace a8:=A9 hb a8;replace b8:=A9 hb b8;replace a9:=A9 hb a9;replace b9:=A9 hb b9;replace a10:=A9 hb a10;replace b10:=A9 hb b10;replace a11:=A9 hb a11;replace b11:=A9 hb b11;replace a12:=A9 hb a12;replace b12:=A9 hb b12;clear hb;go_wp2_with fail;refine (C5.out _ HL.out KL.out).mono ?_;rintro e w1 ⟨rfl,hb⟩;replace HBX:=A5 (andthen HBX.out hb);replace HL:=A5 (HL.out.keep hb);replace KL:=A5 (KL.out.keep hb);replace a12:=A9 hb a12;replace b12:=A9 hb b12;clear hb;go_wp2_with fail;refine (C6.out _ HL.out KL.out).mono ?_;rintro e w1 ⟨rfl,hb⟩;replace HBX:=A5 (andthen HBX.out hb);replace HL:=A5 (HL.out.keep hb);replace KL:=A5 (KL.out.keep hb);clear hb;go_wp2_with fail;go_ret;exact ⟨rfl,HBX.out⟩
 rw [qT];exact key _ _ _ _ _ _ rfl rfl rfl rfl rfl rfl
theorem ZT (u:Tx) {b:Bool} (w:World) (hu:u.length<=40000) (h:Ev.FT u=b):Calls prog 34 #[.string (str u)] w fun e w'=>e=.returned (.bool b)/\w=w':=by
 have:=xV (str u) w (by rw [AB];omega)
 rwa [AD,h] at this
theorem ZU (u:Tx) {b:Bool} (w:World) (hu:u.length<=40000) (h:Ev.E0 u=b):Calls prog 35 #[.string (str u)] w fun e w'=>e=.returned (.bool b)/\w=w':=by
 have:=qS (str u) w (by rw [AB];omega)
 rwa [AD,h] at this
theorem qV {r:Rul.T} (h:isB r=true) (h0:r.fr=0):r=once:=by
 have:=lE r h0;rw [h] at this;exact (EH r once).1 this.symm
theorem TL (e:Ev.E) (m:Mem) (w:World) (h:EvL w e m) :
  Calls prog 18 #[evV e m] w (Ans w (.bool (Ev.isE e))):=by
 obtain ⟨u,t,s,l,o,⟨fr,ev,ct,un,ds,ms,ys⟩,x⟩:=e;obtain ⟨O,oc,D,dc,M,mc,Y,yc,X,xc⟩:=m;have HUL:Hid (u.length<=40000):=A5 h.ul;have HTL:Hid (t.length<=40000):=A5 h.tl;have hxl:x.length<=1000:=h.xl;have HXL:Hid (x.length<=100000):=A5 (by omega);have hol:o.length<=1000:=h.ol;have HBX:=A5 (more (start w) (.cells #[.string (str u),.string (str t),.int .i64 s,.int .i64 l,.slice O o.length oc,.int .i64 fr,.int .i64 ev,.int .i64 ct,.int .i64 un,.slice D ds.length dc,.slice M ms.length mc,.slice Y ys.length yc,.slice X x.length xc] 47));have HL:=A5 (h.keep HBX.out);have hAC:∀ i v,(#[.string (str u),.string (str t),.int .i64 s,.int .i64 l,.slice O o.length oc,.int .i64 fr,.int .i64 ev,.int .i64 ct,.int .i64 un,.slice D ds.length dc,.slice M ms.length mc,.slice Y ys.length yc,.slice X x.length xc]:Array Value)[i]?=some v->(w.alloc (.cells #[.string (str u),.string (str t),.int .i64 s,.int .i64 l,.slice O o.length oc,.int .i64 fr,.int .i64 ev,.int .i64 ct,.int .i64 un,.slice D ds.length dc,.slice M ms.length mc,.slice Y ys.length yc,.slice X x.length xc] 47)).cell? ⟨w.heap.size,i,none⟩=some v:=fun i v h=>by rw [World.cell?_alloc_at _ _ _ _ rfl];exact h
 have s0:=hAC 0 _ rfl;have s1:=hAC 1 _ rfl;have s2:=hAC 2 _ rfl;have s3:=hAC 3 _ rfl;have s4:=hAC 4 _ rfl;have s5:=hAC 5 _ rfl;have s6:=hAC 6 _ rfl;have s7:=hAC 7 _ rfl;have s8:=hAC 8 _ rfl;have s9:=hAC 9 _ rfl;have s10:=hAC 10 _ rfl;have s11:=hAC 11 _ rfl;have s12:=hAC 12 _ rfl;clear hAC;clear h hxl;simp only [evV];go_enter func18,ntmps18;go_wp2_with fail;generalize (w.alloc (.cells #[.string (str u),.string (str t),.int .i64 s,.int .i64 l,.slice O o.length oc,.int .i64 fr,.int .i64 ev,.int .i64 ct,.int .i64 un,.slice D ds.length dc,.slice M ms.length mc,.slice Y ys.length yc,.slice X x.length xc] 47))=W1 at *
 go_loopw [3] (fun i wr=>∃ j:Nat,j<=o.length/\i=.int .i64 j/\Hid (∀ i,i<j->F0 Ev.CO AI 0 o i=true)/\Below W1.heap.size W1 wr) (fun i _=>o.length-(intOf i).toNat)
 case atStart=>exact ⟨0,Nat.zero_le _,rfl,A5 (fun i h=>absurd h (Nat.not_lt_zero _)),start _⟩
 case round =>
  obtain ⟨j,hj,rfl,HE,hbw⟩:=hrel;have HBR:=A5 hbw;have c4:=A9 hbw s4;clear hbw
  by_cases hlt:j<o.length
  ·obtain ⟨b1,o1,rfl,hb1,hc1⟩:=HL.out.o (by intro h0;have h0':o=[]:=h0;rw [h0'] at hlt;exact absurd hlt (Nat.not_lt_zero _));obtain ⟨z,hz⟩:∃ z,o[j]=z:=⟨_,rfl⟩;have p1:wr.cell? ⟨b1,o1+j,none⟩=some (.int .i64 z):=by rw [<- hz];exact (HBR.out.cell (p:=⟨b1,_,none⟩) hb1).trans (hc1 j hlt)
   have hi0:(0:Int)<=(j:Int):=by omega
   have hi1:(j:Int)<(o.length:Int):=by omega
   have HB2:=A5 (fun a=>AJ HBR.out a);have hno:F0 Ev.CO AI 0 o j=false->Ev.isE ⟨u,t,s,l,o,⟨fr,ev,ct,un,ds,ms,ys⟩,x⟩=false:=fun h=>Ev.LV fun g=>by
    have g2:Ev.EZ o=true:=g.rooms;unfold Ev.EZ at g2;rw [L7 Ev.CO AI 0 o j hlt h,Bool.and_false] at g2
    cases g2
   have hbad:Ev.CO z=false->Ev.isE ⟨u,t,s,l,o,⟨fr,ev,ct,un,ds,ms,ys⟩,x⟩=false:=fun h=>hno (EW _ _ _ _ _ hlt (by rw [hz];exact h))
   by_cases hz0:z<0
   ·have d1:decide (z<0)=true:=z0H hz0;have HF:=A5 (hbad (by rw [<- Bool.not_eq_true,Ev.CO,AY];omega));clear hbad hno hz hc1;go_wp2_with fail;go_quiet (fail);have HB3:=A5 (HB2.out nq);generalize wr.drewN nq=wq at *;clear HB2;go_wp2_with fail;go_ret;rw [HF.out];exact ⟨rfl,andthen HBX.out HB3.out⟩
   ·have d1:decide (z<0)=false:=z0G hz0
    by_cases hzm:(8:Int)<=z
    ·have d2:decide ((8:Int)<=z)=true:=z0H hzm;have HF:=A5 (hbad (by rw [<- Bool.not_eq_true,Ev.CO,AY];omega));clear hbad hno hz hc1;go_wp2_with fail;go_quiet (fail);have HB3:=A5 (HB2.out nq);generalize wr.drewN nq=wq at *;clear HB2;go_wp2_with fail;go_ret;rw [HF.out];exact ⟨rfl,andthen HBX.out HB3.out⟩
    ·have d2:decide ((8:Int)<=z)=false:=z0G hzm;have hm:Ev.CO z=true:=by rw [Ev.CO,AY];omega
     rcases Nat.eq_zero_or_pos j with h0|h0
     ·subst h0;rw [Nat.add_zero] at p1;have HN:=A5 (CL Ev.CO AI 0 o 0 HE.out (by rw [I1 _ _ _ _ hlt,hz];exact hm));have g1:decide ((0:Int)<((0:Nat):Int))=false:=rfl;clear hbad hno hz hc1;go_wp2_with fail;go_quiet (fail);have HB3:=A5 (HB2.out nq);generalize wr.drewN nq=wq at *;clear HB2;go_wp2_with fail
      go_roundw
      case rel=>exact ⟨1,by omega,by go_num,A5 HN.out,HB3.out⟩
      case measure=>simp [intOf];omega
     ·obtain ⟨q,rfl⟩:∃ q,j=q+1:=⟨j-1,by omega⟩;have hlq:q<o.length:=Nat.lt_of_succ_lt hlt;obtain ⟨y,hy⟩:∃ y,o[q]=y:=⟨_,rfl⟩;have p0:wr.cell? ⟨b1,o1+q,none⟩=some (.int .i64 y):=by rw [<- hy];exact (HBR.out.cell (p:=⟨b1,_,none⟩) hb1).trans (hc1 q hlq)
      have g0:(0:Int)<((q+1:Nat):Int):=by omega
      have g1:decide ((0:Int)<((q+1:Nat):Int))=true:=z0H g0;have g2:((q+1:Nat):Int)-1=(q:Int):=by omega
      have g3:(0:Int)<=(q:Int):=by omega
      have g4:(q:Int)<(o.length:Int):=by omega
      have hs:=DP Ev.CO AI 0 o q hlt;rw [hz,hy,hm,Bool.true_and] at hs
      cases hc:AI y z
      ·have hd:decide (z<=y)=true:=by unfold AI at hc;rw [decide_eq_false_iff_not] at hc;exact z0H (by omega)
       have hd2:z<=y:=of_decide_eq_true hd;have HF:=A5 (hno (by rw [hs,hc]));clear hbad hno hz hy hc1 hs hc hm;go_wp2_with fail;go_quiet (fail);have HB3:=A5 (HB2.out nq);generalize wr.drewN nq=wq at *;clear HB2;go_wp2_with fail;go_ret;rw [HF.out];exact ⟨rfl,andthen HBX.out HB3.out⟩
      ·have hd:decide (z<=y)=false:=by unfold AI at hc;rw [decide_eq_true_eq] at hc;exact z0G (by omega)
       have hd2:¬ z<=y:=of_decide_eq_false hd;have HN:=A5 (CL Ev.CO AI 0 o (q+1) HE.out (by rw [hs,hc]));clear hbad hno hz hy hc1 hs hc hm;go_wp2_with fail;go_quiet (fail);have HB3:=A5 (HB2.out nq);generalize wr.drewN nq=wq at *;clear HB2;go_wp2_with fail
       go_roundw
       case rel=>exact ⟨q+1+1,by omega,by go_num,A5 HN.out,HB3.out⟩
       case measure=>simp [intOf];omega
  ·obtain rfl:j=o.length:=by omega
   have HA:=A5 ((GG Ev.CO AI 0 o).2 HE.out);have d0:=A9 HBR.out s0;have d1:=A9 HBR.out s1;have d2:=A9 HBR.out s2;have d3:=A9 HBR.out s3;have d4:=A9 HBR.out s4;have d5:=A9 HBR.out s5;have d6:=A9 HBR.out s6;have d7:=A9 HBR.out s7;have d8:=A9 HBR.out s8;have d9:=A9 HBR.out s9;have d10:=A9 HBR.out s10;have d11:=A9 HBR.out s11;have d12:=A9 HBR.out s12;replace HL:=A5 (HL.out.keep HBR.out);clear s0 s1 s2 s3 s4 s5 s6 s7 s8 s9 s10 s11 s12 c4 HE;go_wp2_with fail
   cases hX0:Ev.FT u with
   | false =>
    have HX0:=A5 hX0;have HV:Hid (Ev.isE ⟨u,t,s,l,o,⟨fr,ev,ct,un,ds,ms,ys⟩,x⟩=false):=A5 (Ev.LV fun g=>by have g2:Ev.FT u=true:=g.uid;rw [hX0] at g2;cases g2);clear hX0;refine (ZT u _ HUL.out HX0.out).mono ?_;rintro e w1 ⟨rfl,rfl⟩;go_wp2_with fail;go_ret;rw [HV.out];exact ⟨rfl,andthen HBX.out HBR.out⟩
   | true =>
    have HX0:=A5 hX0;refine (ZT u _ HUL.out HX0.out).mono ?_;rintro e w1 ⟨rfl,rfl⟩;go_wp2_with fail
    cases hX1:Ev.E0 t with
    | false =>
     have HX1:=A5 hX1;have HV:Hid (Ev.isE ⟨u,t,s,l,o,⟨fr,ev,ct,un,ds,ms,ys⟩,x⟩=false):=A5 (Ev.LV fun g=>by have g2:Ev.E0 t=true:=g.text;rw [hX1] at g2;cases g2);clear hX0 hX1;refine (ZU t _ HTL.out HX1.out).mono ?_;rintro e w1 ⟨rfl,rfl⟩;go_wp2_with fail;go_ret;rw [HV.out];exact ⟨rfl,andthen HBX.out HBR.out⟩
    | true =>
     have HX1:=A5 hX1;refine (ZU t _ HTL.out HX1.out).mono ?_;rintro e w1 ⟨rfl,rfl⟩
     by_cases i2:(0:Int)<=s
     ·by_cases i3:s<(52596000:Int)
      ·by_cases i4:(1:Int)<=l
       ·by_cases i5:l<=(10080:Int)
        ·by_cases i6:(1:Int)<=(o.length:Int)
         ·by_cases i7:(o.length:Int)<=(4:Int)
          ·go_wp2_with fail
           cases hX8:isB ⟨fr,ev,ct,un,ds,ms,ys⟩ with
           | false =>
            have HX8:=A5 hX8;have HV:Hid (Ev.isE ⟨u,t,s,l,o,⟨fr,ev,ct,un,ds,ms,ys⟩,x⟩=false):=A5 (Ev.LV fun g=>by have g2:isB ⟨fr,ev,ct,un,ds,ms,ys⟩=true:=g.r;rw [hX8] at g2;cases g2);clear hX0 hX1 hX8;refine (AF (R.OP fr ev ct un D M Y ds.length dc ms.length mc ys.length yc ds ms ys _ HL.out.r) HX8.out).mono ?_;rintro e w1 ⟨rfl,hb⟩;replace HBR:=A5 (andthen HBR.out hb);replace HL:=A5 (HL.out.keep hb);replace d5:=A9 hb d5;replace d12:=A9 hb d12;clear hb;go_wp2_with fail;go_ret;rw [HV.out];exact ⟨rfl,andthen HBX.out HBR.out⟩
           | true =>
            have HX8:=A5 hX8;refine (AF (R.OP fr ev ct un D M Y ds.length dc ms.length mc ys.length yc ds ms ys _ HL.out.r) HX8.out).mono ?_;rintro e w1 ⟨rfl,hb⟩;replace HBR:=A5 (andthen HBR.out hb);replace HL:=A5 (HL.out.keep hb);replace d5:=A9 hb d5;replace d12:=A9 hb d12;clear hb;go_wp2_with fail
            cases hX9:Ev.exB x with
            | false =>
             have HX9:=A5 hX9;have HV:Hid (Ev.isE ⟨u,t,s,l,o,⟨fr,ev,ct,un,ds,ms,ys⟩,x⟩=false):=A5 (Ev.LV fun g=>by have g2:Ev.exB x=true:=g.ex;rw [hX9] at g2;cases g2);clear hX0 hX1 hX8 hX9;refine (AF (Q3 X x.length xc x _ HL.out.x rfl HXL.out) HX9.out).mono ?_;rintro e w1 ⟨rfl,hb⟩;replace HBR:=A5 (andthen HBR.out hb);replace HL:=A5 (HL.out.keep hb);replace d5:=A9 hb d5;replace d12:=A9 hb d12;clear hb;go_wp2_with fail;go_ret;rw [HV.out];exact ⟨rfl,andthen HBX.out HBR.out⟩
            | true =>
             have HX9:=A5 hX9;refine (AF (Q3 X x.length xc x _ HL.out.x rfl HXL.out) HX9.out).mono ?_;rintro e w1 ⟨rfl,hb⟩;replace HBR:=A5 (andthen HBR.out hb);replace HL:=A5 (HL.out.keep hb);replace d5:=A9 hb d5;replace d12:=A9 hb d12;clear hb
             by_cases f0:fr=0
             ·have k0:(fr==0)=true:=beq_iff_eq.2 f0;have k1:(fr != 0)=false:=by rw [bne,k0];rfl
              have ho:=qV hX8 f0
              by_cases x0:x.length=0
              ·have HV:Hid (Ev.isE ⟨u,t,s,l,o,⟨fr,ev,ct,un,ds,ms,ys⟩,x⟩=true):=A5 ((Ev.N7 _).2 ⟨hX0,hX1,(Ev.F3 s).2 ⟨i2,i3⟩,(by show Ev.lgB l=true;rw [Ev.lgB,AY];exact ⟨i4,i5⟩),hX8,hX9,Or.inl (List.length_eq_zero_iff.1 x0),(Ev.FK o).2 ⟨⟨by omega,by omega⟩,(Ev.TH Ev.CO o (by omega)).1 HA.out⟩⟩);have k2:((x.length:Int)==0)=true:=by rw [beq_iff_eq];omega
               clear hX0 hX1 hX8 hX9 ho;go_wp2_with fail;go_ret;rw [HV.out];exact ⟨rfl,andthen HBX.out HBR.out⟩
              ·have HV:Hid (Ev.isE ⟨u,t,s,l,o,⟨fr,ev,ct,un,ds,ms,ys⟩,x⟩=false):=A5 (Ev.LV fun g=>by rcases g.free with g2|g2;exact x0 (by have g3:x=[]:=g2;rw [g3];rfl);exact g2 ho);have k2:((x.length:Int)==0)=false:=by rw [beq_eq_false_iff_ne];omega
               clear hX0 hX1 hX8 hX9 ho;go_wp2_with fail;go_ret;rw [HV.out];exact ⟨rfl,andthen HBX.out HBR.out⟩
             ·have k0:(fr==0)=false:=beq_eq_false_iff_ne.2 f0;have k1:(fr != 0)=true:=by rw [bne,k0];rfl
              have HV:Hid (Ev.isE ⟨u,t,s,l,o,⟨fr,ev,ct,un,ds,ms,ys⟩,x⟩=true):=A5 ((Ev.N7 _).2 ⟨hX0,hX1,(Ev.F3 s).2 ⟨i2,i3⟩,(by show Ev.lgB l=true;rw [Ev.lgB,AY];exact ⟨i4,i5⟩),hX8,hX9,Or.inr (fun g=>f0 (congrArg Rul.T.fr g)),(Ev.FK o).2 ⟨⟨by omega,by omega⟩,(Ev.TH Ev.CO o (by omega)).1 HA.out⟩⟩);clear hX0 hX1 hX8 hX9;go_wp2_with fail;go_ret;rw [HV.out];exact ⟨rfl,andthen HBX.out HBR.out⟩
          ·have HV:Hid (Ev.isE ⟨u,t,s,l,o,⟨fr,ev,ct,un,ds,ms,ys⟩,x⟩=false):=A5 (Ev.LV fun g=>by have g2:=((Ev.FK o).1 g.rooms).1;omega);clear hX0 hX1;go_wp2_with fail;go_ret;rw [HV.out];exact ⟨rfl,andthen HBX.out HBR.out⟩
         ·have HV:Hid (Ev.isE ⟨u,t,s,l,o,⟨fr,ev,ct,un,ds,ms,ys⟩,x⟩=false):=A5 (Ev.LV fun g=>by have g2:=((Ev.FK o).1 g.rooms).1;omega);clear hX0 hX1;go_wp2_with fail;go_ret;rw [HV.out];exact ⟨rfl,andthen HBX.out HBR.out⟩
        ·have HV:Hid (Ev.isE ⟨u,t,s,l,o,⟨fr,ev,ct,un,ds,ms,ys⟩,x⟩=false):=A5 (Ev.LV fun g=>by have g2:Ev.lgB l=true:=g.lg;rw [Ev.lgB,AY] at g2;omega);clear hX0 hX1;go_wp2_with fail;go_ret;rw [HV.out];exact ⟨rfl,andthen HBX.out HBR.out⟩
       ·have HV:Hid (Ev.isE ⟨u,t,s,l,o,⟨fr,ev,ct,un,ds,ms,ys⟩,x⟩=false):=A5 (Ev.LV fun g=>by have g2:Ev.lgB l=true:=g.lg;rw [Ev.lgB,AY] at g2;omega);clear hX0 hX1;go_wp2_with fail;go_ret;rw [HV.out];exact ⟨rfl,andthen HBX.out HBR.out⟩
      ·have HV:Hid (Ev.isE ⟨u,t,s,l,o,⟨fr,ev,ct,un,ds,ms,ys⟩,x⟩=false):=A5 (Ev.LV fun g=>by have g2:=(Ev.F3 s).1 g.st;omega);clear hX0 hX1;go_wp2_with fail;go_ret;rw [HV.out];exact ⟨rfl,andthen HBX.out HBR.out⟩
     ·have HV:Hid (Ev.isE ⟨u,t,s,l,o,⟨fr,ev,ct,un,ds,ms,ys⟩,x⟩=false):=A5 (Ev.LV fun g=>by have g2:=(Ev.F3 s).1 g.st;omega);clear hX0 hX1;go_wp2_with fail;go_ret;rw [HV.out];exact ⟨rfl,andthen HBX.out HBR.out⟩
end Go.Proofs.YtfecnkhoojnkbaaGreatDoor

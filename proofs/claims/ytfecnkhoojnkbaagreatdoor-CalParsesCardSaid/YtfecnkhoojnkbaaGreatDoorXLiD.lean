import Derived.Test.YtfecnkhoojnkbaaGreatDoorXW8
set_option maxHeartbeats 8000000
set_option maxRecDepth 1000000
namespace Go.Proofs.YtfecnkhoojnkbaaGreatDoor
open Go.RowKit Rul Rt Fo Li Go.Sort Tryz
theorem oG (s:Tx) (k:Nat) (h:k<s.length) (hc:inN s[k]=false):FE s=false:=by
 unfold FE;rw [uQ s k h hc,Bool.and_false]
theorem oH (s:ByteArray) (w:World) (hs:s.size<=100000) :
  Calls prog 69 #[.string s] w fun e w'=>e=.returned (.bool (FE s.data.toList))/\w=w':=by
 go_enter func69,ntmps69;go_wp2_with fail
 go_loopw [3] (fun i wr=>∃ k:Nat,k<=s.size/\i=.int .i64 k/\Hid ((s.data.toList.take k).all inN=true)/\wr=w) (fun i _=>s.size-(intOf i).toNat)
 case atStart=>exact ⟨0,Nat.zero_le _,rfl,A5 rfl,rfl⟩
 case round =>
  obtain ⟨k,hk,rfl,HA,rfl⟩:=hrel
  by_cases hlt:k<s.size
  ·have hlt1:(k:Int)<(s.size:Int):=by omega
   have hk0:(0:Int)<=(k:Int):=by omega
   obtain ⟨c,hc⟩:∃ c,s[k]'hlt=c:=⟨_,rfl⟩;have hkl:k<s.data.toList.length:=by rw [AE];exact hlt
   have hcl:s.data.toList[k]=c:=by rw [NO s k hlt,hc]
   have hyes:inN c=true->(s.data.toList.take (k+1)).all inN=true:=fun hb=>dI s.data.toList k hkl HA.out (by rw [hcl];exact hb)
   have hno:inN c=false->FE s.data.toList=false:=fun hb=>oG s.data.toList k hkl (by rw [hcl];exact hb)
   clear hcl hkl
   by_cases h1:(c.toNat:Int)<65
   ·have d1:decide ((c.toNat:Int)<65)=true:=z0H h1
    by_cases h3:(c.toNat:Int)<48
    ·have d3:decide ((c.toNat:Int)<48)=true:=z0H h3
     by_cases h5:(c.toNat:Int)=45
     ·have q5:((c.toNat:Int)==45)=true:=by rw [beq_iff_eq];exact h5
      have q6:((c.toNat:Int) != 45)=false:=by rw [bne,q5];rfl
      have HN:=A5 (hyes ((LA _).2 (by omega)));clear hyes hno h5 h1 h3;go_wp2_with fail
      go_roundw
      case rel=>exact ⟨k+1,by omega,by go_num,HN,by trivial⟩
      case measure=>simp [intOf];omega
     ·have q5:((c.toNat:Int)==45)=false:=by rw [beq_eq_false_iff_ne];exact h5
      have q6:((c.toNat:Int) != 45)=true:=by rw [bne,q5];rfl
      have HF:=A5 (hno (R4 _ (by omega)));clear hyes hno;go_wp2_with fail;go_ret;exact ⟨AA HF.out.symm,rfl⟩
    ·have d3:decide ((c.toNat:Int)<48)=false:=z0G h3
     by_cases h4:(57:Int)<(c.toNat:Int)
     ·have d4:decide ((57:Int)<(c.toNat:Int))=true:=z0H h4;have q5:((c.toNat:Int)==45)=false:=by rw [beq_eq_false_iff_ne];omega
      have q6:((c.toNat:Int) != 45)=true:=by rw [bne,q5];rfl
      have HF:=A5 (hno (R4 _ (by omega)));clear hyes hno;go_wp2_with fail;go_ret;exact ⟨AA HF.out.symm,rfl⟩
     ·have d4:decide ((57:Int)<(c.toNat:Int))=false:=z0G h4;have HN:=A5 (hyes ((LA _).2 (by omega)));clear hyes hno;go_wp2_with fail
      go_roundw
      case rel=>exact ⟨k+1,by omega,by go_num,HN,by trivial⟩
      case measure=>simp [intOf];omega
   ·have d1:decide ((c.toNat:Int)<65)=false:=z0G h1
    by_cases h2:(90:Int)<(c.toNat:Int)
    ·have d2:decide ((90:Int)<(c.toNat:Int))=true:=z0H h2;have h3:¬ (c.toNat:Int)<48:=by omega
     have h4:(57:Int)<(c.toNat:Int):=by omega
     have d3:decide ((c.toNat:Int)<48)=false:=z0G h3;have d4:decide ((57:Int)<(c.toNat:Int))=true:=z0H h4;have q5:((c.toNat:Int)==45)=false:=by rw [beq_eq_false_iff_ne];omega
     have q6:((c.toNat:Int) != 45)=true:=by rw [bne,q5];rfl
     have HF:=A5 (hno (R4 _ (by omega)));clear hyes hno;go_wp2_with fail;go_ret;exact ⟨AA HF.out.symm,rfl⟩
    ·have d2:decide ((90:Int)<(c.toNat:Int))=false:=z0G h2;have HN:=A5 (hyes ((LA _).2 (by omega)));clear hyes hno;go_wp2_with fail
     go_roundw
     case rel=>exact ⟨k+1,by omega,by go_num,HN,by trivial⟩
     case measure=>simp [intOf];omega
  ·obtain rfl:k=s.size:=by omega
   have hall:s.data.toList.all inN=true:=by
    have h:=HA.out;rw [List.take_of_length_le (by rw [AE];omega)] at h;exact h
   by_cases h1:1<=s.size
   ·have g1:(1:Int)<=(s.size:Int):=by omega
    have d1:decide ((1:Int)<=(s.size:Int))=true:=z0H g1
    by_cases h2:s.size<=20
    ·have g2:(s.size:Int)<=20:=by omega
     have d2:decide ((s.size:Int)<=20)=true:=z0H g2;have HF:=A5 ((oS s.data.toList).2 ⟨by rw [AE];exact h1,by rw [AE];exact h2,hall⟩);clear hall;go_wp2_with fail;go_ret;exact ⟨AA HF.out.symm,rfl⟩
    ·have g2:¬ (s.size:Int)<=20:=by omega
     have d2:decide ((s.size:Int)<=20)=false:=z0G g2;have HF:=A5 (UU s.data.toList (by rw [AE];omega));clear hall;go_wp2_with fail;go_ret;exact ⟨AA HF.out.symm,rfl⟩
   ·have g1:¬ (1:Int)<=(s.size:Int):=by omega
    have d1:decide ((1:Int)<=(s.size:Int))=false:=z0G g1;have HF:=A5 (RZ s.data.toList (by rw [AE];omega));clear hall;go_wp2_with fail;go_ret;exact ⟨AA HF.out.symm,rfl⟩
theorem cI (t:Tx) (b:Bool) (w:World) (ht:t.length<=100000) (h:FE t=b) :
  Calls prog 69 #[.string (str t)] w fun e w'=>e=.returned (.bool b)/\w=w':=by
 have:=oH (str t) w (by rw [AB];exact ht);rw [AD,h] at this;exact this
theorem MY (s:ByteArray) (r:Tx) (w:World) (hs:s.size<=100000) (h:AW s.data.toList=r) :
  Calls prog 44 #[.string s] w (Ans w (.string (str r))):=by
 subst h;exact kM s w hs
def SR:Option (Tx×Tx)->Value
 | none=>.tuple #[.string (str []),.string (str []),.bool false]
 | some p=>.tuple #[.string (str p.1),.string (str p.2),.bool true]
theorem cK (s:Tx) (k:Nat) (h:k<s.length) (c:UInt8) (hc:s[k]=c) (x:UInt8) (hx:c≠x) (hn:x∉s.take k):x∉s.take (k+1):=by
 rw [List.take_succ_eq_append_getElem h,hc];intro hm;rcases List.mem_append.1 hm with g|g
 ·exact hn g
 ·exact hx (List.mem_singleton.1 g).symm
theorem A2e (s:Tx) (k:Nat) (h:k<s.length) (c:UInt8) (hc:s[k]=c):s=s.take k++c :: s.drop (k+1):=by
 have:s.take k++s.drop k=s:=List.take_append_drop k s;rw [List.drop_eq_getElem_cons h,hc] at this;exact this.symm
theorem O8 (s:ByteArray) (w:World) (hs:s.size<=100000) :
  Calls prog 43 #[.string s] w (Ans w (SR (AV s.data.toList))):=by
 go_enter func43,ntmps43;go_wp2_with fail
 go_loopw [5] (fun i wr=>∃ k:Nat,k<=s.size/\i=.int .i64 k/\Hid (58∉s.data.toList.take k)/\wr=w) (fun i _=>s.size-(intOf i).toNat)
 case atStart=>exact ⟨0,Nat.zero_le _,rfl,A5 (by simp),rfl⟩
 case round =>
  obtain ⟨k,hk,rfl,HA,rfl⟩:=hrel
  by_cases hlt:k<s.size
  ·have hlt1:(k:Int)<(s.size:Int):=by omega
   have hlt2:(k:Int)<=(s.size:Int):=by omega
   have hlt3:(k:Int)+1<=(s.size:Int):=by omega
   have hk0:(0:Int)<=(k:Int):=by omega
   have hk1:(0:Int)<=(k:Int)+1:=by omega
   obtain ⟨c,hc⟩:∃ c,s[k]'hlt=c:=⟨_,rfl⟩;have hkl:k<s.data.toList.length:=by rw [AE];exact hlt
   have hcl:s.data.toList[k]=c:=by rw [NO s k hlt,hc]
   by_cases h58:c=58
   ·have q1:((c.toNat:Int)==58)=true:=by rw [h58];rfl
    have hpart:=A2e s.data.toList k hkl c hcl;rw [h58] at hpart;have hx:(s.extract 0 k).data.toList=s.data.toList.take k:=by rw [GO,List.drop_zero,AD]
    have hxs:(s.extract 0 k).size<=100000:=by rw [ByteArray.size_extract];omega
    have HG:=A5 (fun w=>MY (s.extract 0 k) _ w hxs rfl);rw [hx] at HG;have HR:=A5 (I6 s (k+1));obtain ⟨X,hX⟩:∃ X,s.extract 0 k=X:=⟨_,rfl⟩;obtain ⟨Y,hY⟩:∃ Y,s.extract (k+1) s.size=Y:=⟨_,rfl⟩;rw [hX] at HG;rw [hY] at HR;have hpl:(s.data.toList.take k).length<=100000:=by rw [List.length_take];omega
    have HA2:=HA.out;obtain ⟨p,hp⟩:∃ p,s.data.toList.take k=p:=⟨_,rfl⟩;obtain ⟨r,hr⟩:∃ r,s.data.toList.drop (k+1)=r:=⟨_,rfl⟩;rw [hp] at HG hpl HA2;rw [hr] at HR;rw [hp,hr] at hpart
    cases hn:FE (AW p) with
    | true =>
     have HF:=A5 (UT _ p r hpart HA2 hn);have HN:=A5 (fun w=>cI (AW p) true w (by rw [DZ];exact hpl) hn);generalize AW p=P at *;rw [HF.out];clear h58 hcl hkl hpart hx hxs hpl HA2 hp hr hn;unfold SR;go_wp2_with fail;refine (HG.out _).mono ?_;rintro e w1 ⟨rfl,b1⟩;have B1:=A5 b1;clear b1;go_wp2_with fail;refine (HN.out _).mono ?_;rintro e w2 ⟨rfl,rfl⟩;have HB2:=A5 (fun a=>AJ B1.out a);go_wp2_with fail;go_quiet (fail);have HB3:=A5 (HB2.out nq);generalize w1.drewN nq=wq at *;clear HB2;go_wp2_with fail;go_ret3;exact ⟨by rw [HR.out];rfl,HB3.out⟩
    | false =>
     have HF:=A5 (XE _ p r hpart HA2 hn);have HN:=A5 (fun w=>cI (AW p) false w (by rw [DZ];exact hpl) hn);generalize AW p=P at *;rw [HF.out];clear h58 hcl hkl hpart hx hxs hpl HA2 hp hr hn;unfold SR;go_wp2_with fail;refine (HG.out _).mono ?_;rintro e w1 ⟨rfl,b1⟩;have B1:=A5 b1;clear b1;go_wp2_with fail;refine (HN.out _).mono ?_;rintro e w2 ⟨rfl,rfl⟩;go_wp2_with fail;go_ret3;exact ⟨rfl,B1.out⟩
   ·have q1:((c.toNat:Int)==58)=false:=by rw [show (58:Int)=((58:UInt8).toNat:Int) from rfl,BN];simp;exact h58
    have HN:=A5 (cK s.data.toList k hkl c hcl 58 h58 HA.out);clear h58 hcl hkl;go_wp2_with fail
    go_roundw
    case rel=>exact ⟨k+1,by omega,by go_num,HN,by trivial⟩
    case measure=>simp [intOf];omega
  ·obtain rfl:k=s.size:=by omega
   have HF:=A5 (US s.data.toList (by
    have h:=HA.out;rw [List.take_of_length_le (by rw [AE];omega)] at h;exact h))
   go_wp2_with fail;go_ret3;exact ⟨by rw [HF.out];rfl,start _⟩
end Go.Proofs.YtfecnkhoojnkbaaGreatDoor

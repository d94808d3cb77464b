import Derived.Test.YtfecnkhoojnkbaaGreatDoorXFoRF
set_option maxHeartbeats 8000000
set_option maxRecDepth 1000000
namespace Go.Proofs.YtfecnkhoojnkbaaGreatDoor
open Go.RowKit Rul Rt Fo Go.Sort Tryz
theorem O7 (s:ByteArray) (k:Nat) (h:k<s.size) (c:UInt8) (hc:s[k]=c):s.extract k (k+1)=str [c]:=by
 rw [GO,CV s k h,hc,List.drop_append_of_le_length (by rw [List.length_take,AE];omega),List.drop_eq_nil_of_le (by rw [List.length_take];omega),List.nil_append]
theorem cG (s:ByteArray) (w:World) (hs:s.size<=100000) :
  Calls prog 41 #[.string s] w (Ans w (.string (str (DV s.data.toList)))):=by
 go_enter func41,ntmps41;go_wp2_with fail
 go_loopw [3,4] (fun o i wr=>∃ (k:Nat) (O:ByteArray),o=.string O/\i=.int .i64 k/\Hid (O.data.toList=DV (s.data.toList.take k))/\k<=s.size/\wr=w) (fun _ i _=>s.size-(intOf i).toNat)
 case atStart=>exact ⟨0,ByteArray.empty,rfl,rfl,A5 rfl,Nat.zero_le _,rfl⟩
 case round =>
  obtain ⟨k,O,rfl,rfl,HN,hk,rfl⟩:=hrel
  by_cases hlt:k<s.size
  ·have HT:=A5 (CV s k hlt);have hO:O.size<=1000000:=by have:=PJ (s.data.toList.take k);rw [<- HN.out,List.length_take,AE] at this;omega
   obtain ⟨c,hc⟩:∃ c,s[k]=c:=⟨_,rfl⟩;rw [hc] at HT;have hlt1:(k:Int)<(s.size:Int):=by omega
   have hlt2:(k:Int)+1<=(s.size:Int):=by omega
   have hk0:(0:Int)<=(k:Int):=by omega
   have hk1:(k:Int)<=(k:Int)+1:=by omega
   have hp:=O7 s k hlt c hc;obtain ⟨Y,hY⟩:∃ Y,s.extract k (k+1)=Y:=⟨_,rfl⟩;rw [hY] at hp;have hYs:Y.size<=1:=by rw [hp,AB];exact Nat.le_refl _
   have HP:=A5 hp;have HOE:=A5 (K7 O);clear hp
   by_cases h1:c=92∨c=59∨c=44
   ·have HF:Hid (((O++str [92])++Y).data.toList=DV (s.data.toList.take (k+1))):=A5 (by
     rw [HT.out,fZ _ c h1,<- HN.out,HP.out];generalize O.data.toList=o at *;rw [HOE.out,AM,AM,AD])
    have hP2:(O++str [92]).size<=1000001:=by rw [ByteArray.size_append,AB];simp only [List.length_cons,List.length_nil];omega
    obtain ⟨q1,q2,q3⟩:(((c.toNat:Int)==92)=true∨(((c.toNat:Int)==92)=false/\((c.toNat:Int)==59)=true)∨(((c.toNat:Int)==92)=false/\((c.toNat:Int)==59)=false/\((c.toNat:Int)==44)=true))/\True/\True:=by
     refine ⟨?_,trivial,trivial⟩;rcases h1 with rfl|rfl|rfl
     ·exact Or.inl (by decide)
     ·exact Or.inr (Or.inl ⟨by decide,by decide⟩)
     ·exact Or.inr (Or.inr ⟨by decide,by decide,by decide⟩)
    clear h1 q2 q3;rcases q1 with q1|⟨q1,q2⟩|⟨q1,q2,q3⟩
    all_goals
     go_wp2_with fail
     go_roundw
     case rel=>exact ⟨k+1,_,rfl,by go_num,HF,by omega,by trivial⟩
     case measure=>simp only [intOf];omega
   ·have q1:((c.toNat:Int)==92)=false:=by rw [show (92:Int)=((92:UInt8).toNat:Int) from rfl,BN];simp;exact fun e=>h1 (Or.inl e)
    have q2:((c.toNat:Int)==59)=false:=by rw [show (59:Int)=((59:UInt8).toNat:Int) from rfl,BN];simp;exact fun e=>h1 (Or.inr (Or.inl e))
    have q3:((c.toNat:Int)==44)=false:=by rw [show (44:Int)=((44:UInt8).toNat:Int) from rfl,BN];simp;exact fun e=>h1 (Or.inr (Or.inr e))
    by_cases h2:c=10
    ·subst h2;have HF:Hid ((O++str [92,110]).data.toList=DV (s.data.toList.take (k+1))):=A5 (by
      rw [HT.out,mY,<- HN.out];generalize O.data.toList=o at *;rw [HOE.out,AM,AD];simp)
     clear h1;go_wp2_with fail
     go_roundw
     case rel=>exact ⟨k+1,_,rfl,by go_num,HF,by omega,by trivial⟩
     case measure=>simp only [intOf];omega
    ·have q4:((c.toNat:Int)==10)=false:=by rw [show (10:Int)=((10:UInt8).toNat:Int) from rfl,BN];simp;exact h2
     have HF:Hid ((O++Y).data.toList=DV (s.data.toList.take (k+1))):=A5 (by
      rw [HT.out,YD _ c h1 h2,<- HN.out,HP.out];generalize O.data.toList=o at *;rw [HOE.out,AM,AD])
     clear h1 h2;go_wp2_with fail
     go_roundw
     case rel=>exact ⟨k+1,_,rfl,by go_num,HF,by omega,by trivial⟩
     case measure=>simp only [intOf];omega
  ·obtain rfl:k=s.size:=by omega
   have HF:Hid (O=str (DV s.data.toList)):=A5 (by
    have h:=HN.out;rw [List.take_of_length_le (by simp)] at h;rw [<- h];exact K7 O)
   go_wp2_with fail;go_ret;exact ⟨DA HF.out,start _⟩
def unR:Option Tx->Value
 | none=>.tuple #[.string (str []),.bool false]
 | some t=>.tuple #[.string (str t),.bool true]
theorem A1H (s:ByteArray) (k:Nat) (h:k<s.size) (c:UInt8) (hc:s[k]=c):s.data.toList.drop k=c :: s.data.toList.drop (k+1):=by
 rw [List.drop_eq_getElem_cons (by simpa using h)]
 congr 1
theorem WC (s:ByteArray) (w:World) (hs:s.size<=100000) :
  Calls prog 136 #[.string s] w (Ans w (unR (unE s.data.toList))):=by
 go_enter func136,ntmps136;go_wp2_with fail
 go_loopw [4,5,6] (fun o i _ wr=>∃ (k:Nat) (O:ByteArray),o=.string O/\i=.int .i64 k/\Hid (unE s.data.toList=(unE (s.data.toList.drop k)).map (O.data.toList++·))/\k<=s.size/\Hid (O.size<=k)/\wr=w) (fun _ i _ _=>s.size-(intOf i).toNat)
 case atStart=>exact ⟨0,ByteArray.empty,rfl,rfl,A5 (by rw [List.drop_zero];exact (map_nil _).symm),Nat.zero_le _,A5 (Nat.zero_le _),rfl⟩
 case round =>
  obtain ⟨k,O,rfl,rfl,HN,hk,HO,rfl⟩:=hrel;have hO:O.size<=1000000:=by have:=HO.out;omega
  have HOE:=A5 (K7 O)
  by_cases hlt:k<s.size
  ·obtain ⟨c,hc⟩:∃ c,s[k]=c:=⟨_,rfl⟩;have HD:=A5 (A1H s k hlt c hc);have hlt1:(k:Int)<(s.size:Int):=by omega
   have hlt2:(k:Int)+1<=(s.size:Int):=by omega
   have hk0:(0:Int)<=(k:Int):=by omega
   have hk1:(k:Int)<=(k:Int)+1:=by omega
   cases hb:bad c with
   | true =>
    have hc92:c≠92:=by rintro rfl;cases hb
    have HF:Hid (unE s.data.toList=none):=A5 (by rw [HN.out,HD.out,Z4 c _ hc92 hb];rfl);have q:(((c.toNat:Int)==59)=true∨(((c.toNat:Int)==59)=false/\((c.toNat:Int)==44)=true)∨(((c.toNat:Int)==59)=false/\((c.toNat:Int)==44)=false/\((c.toNat:Int)==10)=true)):=by
     unfold bad at hb;simp only [Bool.or_eq_true,beq_iff_eq] at hb;rcases hb with (rfl|rfl)|rfl
     ·exact Or.inl (by decide)
     ·exact Or.inr (Or.inl ⟨by decide,by decide⟩)
     ·exact Or.inr (Or.inr ⟨by decide,by decide,by decide⟩)
    clear hb hc92;rw [HF.out];rcases q with q1|⟨q1,q2⟩|⟨q1,q2,q3⟩
    all_goals
     go_wp2_with fail;go_ret2;exact ⟨rfl,start _⟩
   | false =>
    obtain ⟨b1,b2,b3⟩:c≠59/\c≠44/\c≠10:=by
     unfold bad at hb;simp only [Bool.or_eq_false_iff,beq_eq_false_iff_ne] at hb;exact ⟨hb.1.1,hb.1.2,hb.2⟩
    have q1:((c.toNat:Int)==59)=false:=by rw [show (59:Int)=((59:UInt8).toNat:Int) from rfl,BN];simp;exact b1
    have q2:((c.toNat:Int)==44)=false:=by rw [show (44:Int)=((44:UInt8).toNat:Int) from rfl,BN];simp;exact b2
    have q3:((c.toNat:Int)==10)=false:=by rw [show (10:Int)=((10:UInt8).toNat:Int) from rfl,BN];simp;exact b3
    by_cases h92:c=92
    ·subst h92
     by_cases hend:k+1=s.size
     ·have HF:Hid (unE s.data.toList=none):=A5 (by
       rw [HN.out,HD.out,List.drop_eq_nil_of_le (by rw [AE];omega),Z3];rfl)
      have hq:(((k:Int)+1)==(s.size:Int))=true:=by rw [beq_iff_eq];omega
      clear hb b1 b2 b3;rw [HF.out];go_wp2_with fail;go_ret2;exact ⟨rfl,start _⟩
     ·have hlt3:k+1<s.size:=by omega
      obtain ⟨d,hd⟩:∃ d,s[k+1]=d:=⟨_,rfl⟩;have HD2:=A5 (A1H s (k+1) hlt3 d hd);have hq:(((k:Int)+1)==(s.size:Int))=false:=by rw [beq_eq_false_iff_ne];omega
      have hp:=O7 s (k+1) hlt3 d hd;have hs1:(0:Int)<=(k:Int)+1:=by omega
      have hs2:(k:Int)+1<(s.size:Int):=by omega
      have hs3:(k:Int)+1<=(k:Int)+1+1:=by omega
      have hs4:(k:Int)+1+1<=(s.size:Int):=by omega
      obtain ⟨Y,hY⟩:∃ Y,s.extract (k+1) (k+1+1)=Y:=⟨_,rfl⟩;rw [hY] at hp;have hYs:Y.size<=1:=by rw [hp,AB];exact Nat.le_refl _
      have HE1:Hid ((O++Y).data.toList=O.data.toList++[d]):=A5 (by
       rw [hp];generalize O.data.toList=o at *;rw [HOE.out,AM,AD])
      have HE2:Hid ((O++str [10]).data.toList=O.data.toList++[10]):=A5 (by
       generalize O.data.toList=o at *;rw [HOE.out,AM,AD])
      have HS1:Hid ((O++Y).size<=k+2):=A5 (by rw [ByteArray.size_append];have:=HO.out;omega);have HS2:Hid ((O++str [10]).size<=k+2):=A5 (by rw [ByteArray.size_append,AB];have:=HO.out;simp;omega);have hgo:∀ b,KI d=some b->unE s.data.toList=(unE (s.data.toList.drop (k+2))).map ((O.data.toList++[b])++·):=fun b hm=>by
       rw [HN.out,HD.out,HD2.out,JD,hm]
       cases unE (s.data.toList.drop (k+2)) <;> simp
      have hno:KI d=none->unE s.data.toList=none:=fun hm=>by
       rw [HN.out,HD.out,HD2.out,JD,hm];rfl
      clear hb b1 b2 b3 hp
      by_cases h1:d=92∨d=59∨d=44
      ·have HF:Hid (unE s.data.toList=(unE (s.data.toList.drop (k+2))).map ((O++Y).data.toList++·)):=A5 (by
        rw [HE1.out];exact hgo d (by rw [KI,if_pos h1]))
       have q:(((d.toNat:Int)==92)=true∨(((d.toNat:Int)==92)=false/\((d.toNat:Int)==59)=true)∨(((d.toNat:Int)==92)=false/\((d.toNat:Int)==59)=false/\((d.toNat:Int)==44)=true)):=by
        rcases h1 with rfl|rfl|rfl
        ·exact Or.inl (by decide)
        ·exact Or.inr (Or.inl ⟨by decide,by decide⟩)
        ·exact Or.inr (Or.inr ⟨by decide,by decide,by decide⟩)
       clear h1 hgo hno;rcases q with q5|⟨q5,q6⟩|⟨q5,q6,q7⟩
       all_goals
        go_wp2_with fail
        go_roundw
        case rel=>exact ⟨k+2,_,rfl,by go_num,HF,by omega,HS1,by trivial⟩
        case measure=>simp only [intOf];omega
      ·have q5:((d.toNat:Int)==92)=false:=by rw [show (92:Int)=((92:UInt8).toNat:Int) from rfl,BN];simp;exact fun e=>h1 (Or.inl e)
       have q6:((d.toNat:Int)==59)=false:=by rw [show (59:Int)=((59:UInt8).toNat:Int) from rfl,BN];simp;exact fun e=>h1 (Or.inr (Or.inl e))
       have q7:((d.toNat:Int)==44)=false:=by rw [show (44:Int)=((44:UInt8).toNat:Int) from rfl,BN];simp;exact fun e=>h1 (Or.inr (Or.inr e))
       by_cases h2:d=110∨d=78
       ·have HF:Hid (unE s.data.toList=(unE (s.data.toList.drop (k+2))).map ((O++str [10]).data.toList++·)):=A5 (by
         rw [HE2.out];exact hgo 10 (by rw [KI,if_neg h1,if_pos h2]))
        have q:(((d.toNat:Int)==110)=true∨(((d.toNat:Int)==110)=false/\((d.toNat:Int)==78)=true)):=by
         rcases h2 with rfl|rfl
         ·exact Or.inl (by decide)
         ·exact Or.inr ⟨by decide,by decide⟩
        clear h1 h2 hgo hno;rcases q with q8|⟨q8,q9⟩
        all_goals
         go_wp2_with fail
         go_roundw
         case rel=>exact ⟨k+2,_,rfl,by go_num,HF,by omega,HS2,by trivial⟩
         case measure=>simp only [intOf];omega
       ·have q8:((d.toNat:Int)==110)=false:=by rw [show (110:Int)=((110:UInt8).toNat:Int) from rfl,BN];simp;exact fun e=>h2 (Or.inl e)
        have q9:((d.toNat:Int)==78)=false:=by rw [show (78:Int)=((78:UInt8).toNat:Int) from rfl,BN];simp;exact fun e=>h2 (Or.inr e)
        have HF:=A5 (hno (by rw [KI,if_neg h1,if_neg h2]));clear h1 h2 hgo hno;rw [HF.out];go_wp2_with fail;go_ret2;exact ⟨rfl,start _⟩
    ·have HF:Hid (unE s.data.toList=(unE (s.data.toList.drop (k+1))).map ((O++str [c]).data.toList++·)):=A5 (by
      rw [HN.out,HD.out,N5 c _ h92 hb];have e:(O++str [c]).data.toList=O.data.toList++[c]:=by
       generalize O.data.toList=o at *;rw [HOE.out,AM,AD]
      rw [e]
      cases unE (s.data.toList.drop (k+1)) <;> simp)
     have q4:((c.toNat:Int)==92)=false:=by rw [show (92:Int)=((92:UInt8).toNat:Int) from rfl,BN];simp;exact h92
     have q5:((c.toNat:Int) != 92)=true:=by rw [bne,q4];rfl
     have hp:=O7 s k hlt c hc;obtain ⟨Y,hY⟩:∃ Y,s.extract k (k+1)=Y:=⟨_,rfl⟩;rw [hY] at hp;have hYs:Y.size<=1:=by rw [hp,AB];exact Nat.le_refl _
     rw [<- hp] at HF;have HO2:Hid ((O++Y).size<=k+1):=A5 (by rw [ByteArray.size_append];have:=HO.out;omega);clear hb b1 b2 b3 h92 hp;go_wp2_with fail
     go_roundw
     case rel=>exact ⟨k+1,_,rfl,by go_num,HF,by omega,HO2,by trivial⟩
     case measure=>simp only [intOf];omega
  ·obtain rfl:k=s.size:=by omega
   have HF:Hid (unE s.data.toList=some O.data.toList):=A5 (by
    rw [HN.out,List.drop_eq_nil_of_le (by simp)];simp [unE])
   have HR:Hid (unR (unE s.data.toList)=.tuple #[.string O,.bool true]):=A5 (by
    rw [HF.out]
    show Value.tuple #[.string (str O.data.toList),.bool true]=_
    rw [<- HOE.out])
   go_wp2_with fail;go_ret2;exact ⟨by rw [HR.out];rfl,start _⟩
end Go.Proofs.YtfecnkhoojnkbaaGreatDoor

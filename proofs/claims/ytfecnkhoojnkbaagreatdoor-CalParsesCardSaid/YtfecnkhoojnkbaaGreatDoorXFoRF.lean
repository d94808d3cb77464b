import Derived.Test.YtfecnkhoojnkbaaGreatDoorXW7
set_option maxHeartbeats 8000000
set_option maxRecDepth 1000000
namespace Go.Proofs.YtfecnkhoojnkbaaGreatDoor
open Go.RowKit Rul Rt Fo Go.Sort Tryz
theorem u0 (s:ByteArray) (k:Nat) (hk:k<s.size):∃ e:Nat,min ((k:Int)+75-1) (s.size:Int)=(e:Int)/\k<=e/\e<=s.size/\s.extract k e=str ((s.data.toList.drop k).take 74):=by
 rcases Nat.lt_or_ge s.size (k+74) with h|h
 ·refine ⟨s.size,by omega,by omega,Nat.le_refl _,?_⟩;rw [I6,List.take_of_length_le (by rw [List.length_drop,AE];omega)]
 ·refine ⟨k+74,by omega,by omega,h,?_⟩;rw [GO,List.drop_take]
  congr 2;omega
theorem oF (s:ByteArray) (w:World) (hs:s.size<=100000) :
  Calls prog 20 #[.string s] w (Ans w (.string (str (DT s.data.toList)))):=by
 have HFL:Hid ((DT s.data.toList).length<=1000000):=A5 (by rw [N4,AE];omega)
 by_cases h75:s.size<=75
 ·have q:decide ((s.size:Int)<=75)=true:=z0H (by omega);have HF:Hid (s=str (DT s.data.toList)):=A5 (by rw [IF _ (by rw [AE];exact h75)];exact K7 s);go_enter func20,ntmps20;go_wp2_with fail;go_ret;exact ⟨DA HF.out,start _⟩
 ·have q:decide ((s.size:Int)<=75)=false:=z0G (by omega);have hq:(75:Int)<=(s.size:Int):=by omega
  have HE0:Hid (s.extract 0 75=str (s.data.toList.take 75)):=A5 (by rw [GO,List.drop_zero]);obtain ⟨X,hX⟩:∃ X,s.extract 0 75=X:=⟨_,rfl⟩;rw [hX] at HE0;go_enter func20,ntmps20;go_wp2_with fail
  go_loopw [3,4] (fun o i wr=>∃ (k:Nat) (O:ByteArray),o=.string O/\i=.int .i64 k/\Hid (DT s.data.toList=O.data.toList++tlE (s.data.toList.drop k))/\k<=s.size+74/\wr=w) (fun _ i _=>s.size+100-(intOf i).toNat)
  case atStart=>exact ⟨75,X,rfl,rfl,A5 (by rw [HE0.out,AD];rfl),by omega,rfl⟩
  case round =>
   obtain ⟨k,O,rfl,rfl,HN,hk,rfl⟩:=hrel;have hO:O.size<=1000000:=by have:=HFL.out;rw [HN.out,z0J,AE] at this;omega
   by_cases hlt:k<s.size
   ·obtain ⟨e,he,hke,hes,hx⟩:=u0 s k hlt;have hlt1:(k:Int)<(s.size:Int):=by omega
    have hk0:(0:Int)<=(k:Int):=by omega
    have he1:(k:Int)<=(e:Int):=by omega
    have he2:(e:Int)<=(s.size:Int):=by omega
    obtain ⟨Y,hY⟩:∃ Y,s.extract k e=Y:=⟨_,rfl⟩;rw [hY] at hx;have hYs:Y.size<=1000:=by rw [hx,AB,List.length_take];omega
    have HN2:Hid (DT s.data.toList=((O++str PI)++Y).data.toList++tlE (s.data.toList.drop (k+74))):=A5 (by
     have g:=MG (s.data.toList.drop k) (by rw [List.length_drop,AE];omega);rw [HN.out,g,hx,List.drop_drop,K7 O,AM,AM,AD,AD];simp)
    have hP:(O++str PI).size<=1000003:=by rw [ByteArray.size_append,AB];simp only [PI,List.length_cons,List.length_nil];omega
    clear hx hke hes;go_wp2_with fail
    go_roundw
    case rel =>
     exact ⟨k+74,_,rfl,by rw [show ((k+74:Nat):Int)=(k:Int)+75-1 by omega],HN2,by omega,by trivial⟩
    case measure=>simp only [intOf];omega
   ·have hlt1:¬ (k:Int)<(s.size:Int):=by omega
    have HF:Hid (O=str (DT s.data.toList)):=A5 (by
     rw [HN.out,List.drop_eq_nil_of_le (by rw [AE];omega),JW,List.append_nil];exact K7 O)
    go_wp2_with fail;go_ret;exact ⟨DA HF.out,start _⟩
end Go.Proofs.YtfecnkhoojnkbaaGreatDoor

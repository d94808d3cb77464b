/- Walks of the document's folding and escaping: hostelryref8's Fold, Escape, Unescape. -/
import Derived.Test.YtfecnkhoojnkbaaGreatDoorZW7
import Derived.Test.YtfecnkhoojnkbaaGreatDoorZFoRF
set_option maxHeartbeats 8000000
set_option maxRecDepth 100000
namespace Go.Proofs.YtfecnkhoojnkbaaGreatDoor
open Go.RowKit Rul Rt Fo Go.Sort
theorem byte_piece (s : ByteArray) (k : Nat) (h : k < s.size) (c : UInt8) (hc : s[k] = c) : s.extract k (k + 1) = str [c]:=by
 rw [ext_str,take_next s k h,hc,List.drop_append_of_le_length (by rw [List.length_take,len_of]; omega),List.drop_eq_nil_of_le (by rw [List.length_take]; omega),List.nil_append]
theorem rEscape_any (s : ByteArray) (w : World) (hs : s.size <= 100000) :
  Calls Tryz.prog 41 #[.string s] w (Ans w (.string (str (escE s.data.toList)))):=by
 go_enter Tryz.func41,Tryz.ntmps41
 go_wp2_with fail
 go_loopw [3,4] (fun o i wr => ∃ (k : Nat) (O : ByteArray),o = .string O /\ i = .int .i64 k /\ Hid (O.data.toList = escE (s.data.toList.take k)) /\ k <= s.size /\ wr = w) (fun _ i _ => s.size - (intOf i).toNat)
 case atStart => exact ⟨0,ByteArray.empty,rfl,rfl,hide rfl,Nat.zero_le _,rfl⟩
 case round =>
  obtain ⟨k,O,rfl,rfl,HN,hk,rfl⟩:=hrel
  by_cases hlt : k < s.size
  ·have HT:=hide (take_next s k hlt)
   have hO : O.size <= 1000000:=by have:=escE_len (s.data.toList.take k); rw [<- HN.out,List.length_take,len_of] at this; omega
   obtain ⟨c,hc⟩ : ∃ c,s[k] = c:=⟨_,rfl⟩
   rw [hc] at HT
   have hlt1 : (k : Int) < (s.size : Int):=by omega
   have hlt2 : (k : Int) + 1 <= (s.size : Int):=by omega
   have hk0 : (0 : Int) <= (k : Int):=by omega
   have hk1 : (k : Int) <= (k : Int) + 1:=by omega
   have hp:=byte_piece s k hlt c hc
   obtain ⟨Y,hY⟩ : ∃ Y,s.extract k (k + 1) = Y:=⟨_,rfl⟩
   rw [hY] at hp
   have hYs : Y.size <= 1:=by rw [hp,str_size]; exact Nat.le_refl _
   have HP:=hide hp
   have HOE:=hide (str_of O)
   clear hp
   by_cases h1 : c = 92 ∨ c = 59 ∨ c = 44
   ·have HF : Hid (((O ++ str [92]) ++ Y).data.toList = escE (s.data.toList.take (k + 1))):=hide (by
     rw [HT.out,esc_mark _ c h1,<- HN.out,HP.out]
     generalize O.data.toList = o at *
     rw [HOE.out,str_app,str_app,str_list])
    have hP2 : (O ++ str [92]).size <= 1000001:=by rw [ByteArray.size_append,str_size]; simp only [List.length_cons,List.length_nil]; omega
    obtain ⟨q1,q2,q3⟩ : (((c.toNat : Int) == 92) = true ∨ (((c.toNat : Int) == 92) = false /\ ((c.toNat : Int) == 59) = true) ∨ (((c.toNat : Int) == 92) = false /\ ((c.toNat : Int) == 59) = false /\ ((c.toNat : Int) == 44) = true)) /\ True /\ True:=by
     refine ⟨?_,trivial,trivial⟩
     rcases h1 with rfl | rfl | rfl
     ·exact Or.inl (by decide)
     ·exact Or.inr (Or.inl ⟨by decide,by decide⟩)
     ·exact Or.inr (Or.inr ⟨by decide,by decide,by decide⟩)
    clear h1 q2 q3
    rcases q1 with q1 | ⟨q1,q2⟩ | ⟨q1,q2,q3⟩
    all_goals
     go_wp2_with fail
     go_roundw
     case rel => exact ⟨k + 1,_,rfl,by go_num,HF,by omega,by trivial⟩
     case measure => simp only [intOf]; omega
   ·have q1 : ((c.toNat : Int) == 92) = false:=by rw [show (92 : Int) = ((92 : UInt8).toNat : Int) from rfl,byte_eq]; simp; exact fun e => h1 (Or.inl e)
    have q2 : ((c.toNat : Int) == 59) = false:=by rw [show (59 : Int) = ((59 : UInt8).toNat : Int) from rfl,byte_eq]; simp; exact fun e => h1 (Or.inr (Or.inl e))
    have q3 : ((c.toNat : Int) == 44) = false:=by rw [show (44 : Int) = ((44 : UInt8).toNat : Int) from rfl,byte_eq]; simp; exact fun e => h1 (Or.inr (Or.inr e))
    by_cases h2 : c = 10
    ·subst h2
     have HF : Hid ((O ++ str [92,110]).data.toList = escE (s.data.toList.take (k + 1))):=hide (by
      rw [HT.out,esc_end,<- HN.out]
      generalize O.data.toList = o at *
      rw [HOE.out,str_app,str_list]; simp)
     clear h1
     go_wp2_with fail
     go_roundw
     case rel => exact ⟨k + 1,_,rfl,by go_num,HF,by omega,by trivial⟩
     case measure => simp only [intOf]; omega
    ·have q4 : ((c.toNat : Int) == 10) = false:=by rw [show (10 : Int) = ((10 : UInt8).toNat : Int) from rfl,byte_eq]; simp; exact h2
     have HF : Hid ((O ++ Y).data.toList = escE (s.data.toList.take (k + 1))):=hide (by
      rw [HT.out,esc_plain _ c h1 h2,<- HN.out,HP.out]
      generalize O.data.toList = o at *
      rw [HOE.out,str_app,str_list])
     clear h1 h2
     go_wp2_with fail
     go_roundw
     case rel => exact ⟨k + 1,_,rfl,by go_num,HF,by omega,by trivial⟩
     case measure => simp only [intOf]; omega
  ·obtain rfl : k = s.size:=by omega
   have HF : Hid (O = str (escE s.data.toList)):=hide (by
    have h:=HN.out
    rw [List.take_of_length_le (by simp)] at h
    rw [<- h]; exact str_of O)
   go_wp2_with fail
   go_ret
   exact ⟨ret_str HF.out,start _⟩
end Go.Proofs.YtfecnkhoojnkbaaGreatDoor

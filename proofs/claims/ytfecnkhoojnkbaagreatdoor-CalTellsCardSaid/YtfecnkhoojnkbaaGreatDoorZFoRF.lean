/- Walk of the document's folding: hostelryref8's Fold. -/
import Derived.Test.YtfecnkhoojnkbaaGreatDoorZW7
set_option maxHeartbeats 8000000
set_option maxRecDepth 100000
namespace Go.Proofs.YtfecnkhoojnkbaaGreatDoor
open Go.RowKit Rul Rt Fo Go.Sort
theorem piece_at (s : ByteArray) (k : Nat) (hk : k < s.size) : ∃ e : Nat,min ((k : Int) + 75 - 1) (s.size : Int) = (e : Int) /\ k <= e /\ e <= s.size /\ s.extract k e = str ((s.data.toList.drop k).take 74):=by
 rcases Nat.lt_or_ge s.size (k + 74) with h | h
 ·refine ⟨s.size,by omega,by omega,Nat.le_refl _,?_⟩
  rw [ext_end,List.take_of_length_le (by rw [List.length_drop,len_of]; omega)]
 ·refine ⟨k + 74,by omega,by omega,h,?_⟩
  rw [ext_str,List.drop_take]
  congr 2; omega
theorem rFold_any (s : ByteArray) (w : World) (hs : s.size <= 100000) :
  Calls Tryz.prog 20 #[.string s] w (Ans w (.string (str (foldE s.data.toList)))):=by
 have HFL : Hid ((foldE s.data.toList).length <= 1000000):=hide (by rw [foldE_len,len_of]; omega)
 by_cases h75 : s.size <= 75
 ·have q : decide ((s.size : Int) <= 75) = true:=decide_eq_true (by omega)
  have HF : Hid (s = str (foldE s.data.toList)):=hide (by rw [foldE_short _ (by rw [len_of]; exact h75)]; exact str_of s)
  go_enter Tryz.func20,Tryz.ntmps20
  go_wp2_with fail
  go_ret
  exact ⟨ret_str HF.out,start _⟩
 ·have q : decide ((s.size : Int) <= 75) = false:=decide_eq_false (by omega)
  have hq : (75 : Int) <= (s.size : Int):=by omega
  have HE0 : Hid (s.extract 0 75 = str (s.data.toList.take 75)):=hide (by rw [ext_str,List.drop_zero])
  obtain ⟨X,hX⟩ : ∃ X,s.extract 0 75 = X:=⟨_,rfl⟩
  rw [hX] at HE0
  go_enter Tryz.func20,Tryz.ntmps20
  go_wp2_with fail
  go_loopw [3,4] (fun o i wr => ∃ (k : Nat) (O : ByteArray),o = .string O /\ i = .int .i64 k /\ Hid (foldE s.data.toList = O.data.toList ++ tlE (s.data.toList.drop k)) /\ k <= s.size + 74 /\ wr = w) (fun _ i _ => s.size + 100 - (intOf i).toNat)
  case atStart => exact ⟨75,X,rfl,rfl,hide (by rw [HE0.out,str_list]; rfl),by omega,rfl⟩
  case round =>
   obtain ⟨k,O,rfl,rfl,HN,hk,rfl⟩:=hrel
   have hO : O.size <= 1000000:=by have:=HFL.out; rw [HN.out,List.length_append,len_of] at this; omega
   by_cases hlt : k < s.size
   ·obtain ⟨e,he,hke,hes,hx⟩:=piece_at s k hlt
    have hlt1 : (k : Int) < (s.size : Int):=by omega
    have hk0 : (0 : Int) <= (k : Int):=by omega
    have he1 : (k : Int) <= (e : Int):=by omega
    have he2 : (e : Int) <= (s.size : Int):=by omega
    obtain ⟨Y,hY⟩ : ∃ Y,s.extract k e = Y:=⟨_,rfl⟩
    rw [hY] at hx
    have hYs : Y.size <= 1000:=by rw [hx,str_size,List.length_take]; omega
    have HN2 : Hid (foldE s.data.toList = ((O ++ str sepE) ++ Y).data.toList ++ tlE (s.data.toList.drop (k + 74))):=hide (by
     have g:=tlE_more (s.data.toList.drop k) (by rw [List.length_drop,len_of]; omega)
     rw [HN.out,g,hx,List.drop_drop,str_of O,str_app,str_app,str_list,str_list]
     simp)
    have hP : (O ++ str sepE).size <= 1000003:=by rw [ByteArray.size_append,str_size]; simp only [sepE,List.length_cons,List.length_nil]; omega
    clear hx hke hes
    go_wp2_with fail
    go_roundw
    case rel =>
     exact ⟨k + 74,_,rfl,by rw [show ((k + 74 : Nat) : Int) = (k : Int) + 75 - 1 by omega],HN2,by omega,by trivial⟩
    case measure => simp only [intOf]; omega
   ·have hlt1 : ¬ (k : Int) < (s.size : Int):=by omega
    have HF : Hid (O = str (foldE s.data.toList)):=hide (by
     rw [HN.out,List.drop_eq_nil_of_le (by rw [len_of]; omega),tlE_nil,List.append_nil]; exact str_of O)
    go_wp2_with fail
    go_ret
    exact ⟨ret_str HF.out,start _⟩
end Go.Proofs.YtfecnkhoojnkbaaGreatDoor

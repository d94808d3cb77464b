/- Walks of package civil: the form of a text; Parse. -/
import Derived.Test.YtbohogaopfkmlaaDoorCivK
import Derived.Lib.IndexBytes
namespace Go.Proofs.YtbohogaopfkmlaaDoor
open Go.RowKit

theorem suffix_any (s p : ByteArray) (w : World) (hs : s.size ≤ 1000000) :
    Calls Tryd.prog 47 #[.string s, .string p] w fun e w' => e = .returned (.bool (Lib.hasSuffix s.data.toList p.data.toList)) ∧ w = w' :=
  (Tryd.strings_HasSuffix s p w (by omega)).mono fun _ _ ⟨he, hw⟩ => ⟨he, hw.symm⟩

/-- has a text the form of a minute's? -/
def formB (l : List UInt8) : Bool := decide (l.length = 15) && (l.getD 8 0 == 84) && (l.drop 13 == [48, 48]) && digitsB (l.take 8) && digitsB (l.drop 9)

theorem suffix_at (b : Bool) (s p : ByteArray) (w : World) (hs : s.size ≤ 1000000) (h : Lib.hasSuffix s.data.toList p.data.toList = b) :
    Calls Tryd.prog 47 #[.string s, .string p] w fun e w' => e = .returned (.bool b) ∧ w = w' := by
  subst h; exact suffix_any s p w hs
theorem areDigits_at (b : Bool) (s : ByteArray) (w : World) (hs : s.size ≤ 1000000) (h : digitsB s.data.toList = b) :
    Calls Tryd.prog 48 #[.string s] w fun e w' => e = .returned (.bool b) ∧ w = w' := by
  subst h; exact areDigits_any s w hs

set_option maxHeartbeats 400000 in
theorem hasForm_long (s : ByteArray) (w : World) (hn : s.size ≠ 15) :
    Calls Tryd.prog 40 #[.string s] w fun e w' => e = .returned (.bool false) ∧ w = w' := by
  have h15 : ((s.size : Int) != 15) = true := by rw [bne_iff_ne]; omega
  have h15' : ((s.size : Int) == 15) = false := by rw [beq_eq_false_iff_ne]; omega
  go_enter Tryd.func40, Tryd.ntmps40
  go_wp2_with fail
  go_ret
  exact ⟨rfl, rfl⟩

set_option maxHeartbeats 400000 in
theorem hasForm_mid (s : ByteArray) (w : World) (hn : s.size = 15) (ht : (((s[8]'(by omega)).toNat : Int) != 84) = true) :
    Calls Tryd.prog 40 #[.string s] w fun e w' => e = .returned (.bool false) ∧ w = w' := by
  go_enter Tryd.func40, Tryd.ntmps40
  go_wp2_with fail
  go_ret
  exact ⟨rfl, rfl⟩

set_option maxHeartbeats 400000 in
theorem hasForm_end (s : ByteArray) (w : World) (hn : s.size = 15) (ht : (((s[8]'(by omega)).toNat : Int) != 84) = false) (he : Lib.hasSuffix s.data.toList [48, 48] = false) :
    Calls Tryd.prog 40 #[.string s] w fun e w' => e = .returned (.bool false) ∧ w = w' := by
  have H := hide he
  clear he
  go_enter Tryd.func40, Tryd.ntmps40
  go_wp2_with fail
  refine (suffix_at false _ _ _ (by omega) H.out).mono ?_
  rintro e w' ⟨rfl, rfl⟩
  go_wp2_with fail
  go_ret
  exact ⟨rfl, rfl⟩

set_option maxHeartbeats 400000 in
theorem hasForm_a (s : ByteArray) (w : World) (hn : s.size = 15) (ht : (((s[8]'(by omega)).toNat : Int) != 84) = false) (he : Lib.hasSuffix s.data.toList [48, 48] = true) (hd : digitsB (s.extract 0 8).data.toList = false) :
    Calls Tryd.prog 40 #[.string s] w fun e w' => e = .returned (.bool false) ∧ w = w' := by
  have H := hide he
  have HD := hide hd
  have hsz : (s.extract 0 8).size = 8 := by simp [ByteArray.size_extract]; omega
  clear he hd
  go_enter Tryd.func40, Tryd.ntmps40
  go_wp2_with fail
  refine (suffix_at true _ _ _ (by omega) H.out).mono ?_
  rintro e w' ⟨rfl, rfl⟩
  go_wp2_with fail
  refine (areDigits_at false _ _ (by omega) HD.out).mono ?_
  rintro e w' ⟨rfl, rfl⟩
  go_wp2_with fail
  go_ret
  exact ⟨rfl, rfl⟩

set_option maxHeartbeats 400000 in
theorem hasForm_b (b : Bool) (s : ByteArray) (w : World) (hn : s.size = 15) (ht : (((s[8]'(by omega)).toNat : Int) != 84) = false) (he : Lib.hasSuffix s.data.toList [48, 48] = true) (hd : digitsB (s.extract 0 8).data.toList = true)
    (hd2 : digitsB (s.extract 9 15).data.toList = b) :
    Calls Tryd.prog 40 #[.string s] w fun e w' => e = .returned (.bool b) ∧ w = w' := by
  have H := hide he
  have HD := hide hd
  have HD2 := hide hd2
  have hsz : (s.extract 0 8).size = 8 := by simp [ByteArray.size_extract]; omega
  have hsz2 : (s.extract 9 15).size = 6 := by simp [ByteArray.size_extract]; omega
  clear he hd hd2
  go_enter Tryd.func40, Tryd.ntmps40
  go_wp2_with fail
  refine (suffix_at true _ _ _ (by omega) H.out).mono ?_
  rintro e w' ⟨rfl, rfl⟩
  go_wp2_with fail
  refine (areDigits_at true _ _ (by omega) HD.out).mono ?_
  rintro e w' ⟨rfl, rfl⟩
  go_wp2_with fail
  refine (areDigits_at b _ _ (by omega) HD2.out).mono ?_
  rintro e w' ⟨rfl, rfl⟩
  go_wp2_with fail
  go_ret
  exact ⟨rfl, rfl⟩

end Go.Proofs.YtbohogaopfkmlaaDoor

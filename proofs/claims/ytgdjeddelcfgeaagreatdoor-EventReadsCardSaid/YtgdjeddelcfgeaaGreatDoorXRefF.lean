/- Put together: RefD RefE RefF. -/
import Derived.Laws.IdiomStrings
import Derived.Great.BuildSlice
import Derived.Test.YtgdjeddelcfgeaaGreatDoorXRefC
import Derived.Test.YtgdjeddelcfgeaaGreatDoorXW1
namespace Go.Proofs.YtgdjeddelcfgeaaGreatDoor
open Go.RowKit

theorem mem_getD (l : List UInt8) (k : Nat) (h : k < l.length) : l.getD k 0 = l[k]:=by
 rw [List.getD_eq_getElem?_getD,List.getElem?_eq_getElem h]; rfl
theorem form_fail (l : List UInt8) (hl : l.length = 15) (k : Nat) (hk : k < 15) (h8 : k ≠ 8) (hd : digit (l.getD k 0) = false) : formB l = false:=by
 rw [Bool.eq_false_iff]
 intro hf
 obtain ⟨_,d1,d2⟩:=form_parts l hf
 rw [mem_getD l k (by omega)] at hd
 unfold digitsB at d1 d2
 rw [List.all_eq_true] at d1 d2
 by_cases h : k < 8
 ·have : l[k] ∈ l.take 8:=by
   rw [List.mem_iff_getElem]
   exact ⟨k,by simp; omega,by simp⟩
  rw [d1 _ this] at hd; cases hd
 ·have : l[k] ∈ l.drop 9:=by
   rw [List.mem_iff_getElem]
   exact ⟨k - 9,by simp; omega,by simp [show 9 + (k - 9) = k by omega]⟩
  rw [d2 _ this] at hd; cases hd
theorem form_ok (l : List UInt8) (hl : l.length = 15) (h8 : l.getD 8 0 = 84) (h13 : l.drop 13 = [48,48]) (ha : ∀ k,k < 15 → k ≠ 8 → digit (l.getD k 0) = true) : formB l = true:=by
 unfold formB
 have d1 : digitsB (l.take 8) = true:=by
  unfold digitsB
  rw [List.all_eq_true]
  intro x hx
  rw [List.mem_iff_getElem] at hx
  obtain ⟨i,hi,rfl⟩:=hx
  simp at hi
  have:=ha i (by omega) (by omega)
  rw [mem_getD l i (by omega)] at this
  simpa using this
 have d2 : digitsB (l.drop 9) = true:=by
  unfold digitsB
  rw [List.all_eq_true]
  intro x hx
  rw [List.mem_iff_getElem] at hx
  obtain ⟨i,hi,rfl⟩:=hx
  simp at hi
  have:=ha (9 + i) (by omega) (by omega)
  rw [mem_getD l (9 + i) (by omega)] at this
  simpa using this
 rw [d1,d2,h13,h8,hl]
 rfl

def dv (l : List UInt8) (k : Nat) : Int:=((l.getD k 0).toNat : Int) - 48
def arr (l : List UInt8) : Nat → Array Value
 | 0 => #[.int .i64 0,.int .i64 0,.int .i64 0,.int .i64 0,.int .i64 0,.int .i64 0,.int .i64 0,.int .i64 0,.int .i64 0,.int .i64 0,.int .i64 0,.int .i64 0,.int .i64 0,.int .i64 0,.int .i64 0]
 | k + 1 => (arr l k).setIfInBounds k (.int .i64 (dv l k))
theorem arr_size (l : List UInt8) : ∀ k,(arr l k).size = 15
 | 0 => rfl
 | k + 1 => by rw [arr,Array.size_setIfInBounds,arr_size l k]
theorem arr_done (l : List UInt8) : ∀ (k j : Nat),j < k → k ≤ 15 → (arr l k)[j]? = some (.int .i64 (dv l j))
 | 0,j,h,_ => by omega
 | k + 1,j,h,hk => by
  rw [arr,Array.getElem?_setIfInBounds]
  by_cases e : k = j
  ·subst e; rw [if_pos rfl,if_pos (by rw [arr_size]; omega)]
  ·rw [if_neg e]; exact arr_done l k j (by omega) (by omega)
theorem arr_some (l : List UInt8) (k : Nat) (hk : k < 15) : ((arr l k)[k]?).isSome = true:=by
 rw [Array.getElem?_eq_getElem (by rw [arr_size]; exact hk)]; rfl
theorem val_fields (l : List UInt8) (hl : l.length = 15) : val (l.take 4) = 1000 * dv l 0 + 100 * dv l 1 + 10 * dv l 2 + dv l 3 ∧ val ((l.drop 4).take 2) = 10 * dv l 4 + dv l 5 ∧ val ((l.drop 6).take 2) = 10 * dv l 6 + dv l 7 ∧
  val ((l.drop 9).take 2) = 10 * dv l 9 + dv l 10 ∧ val ((l.drop 11).take 2) = 10 * dv l 11 + dv l 12:=by
 match l,hl with
 | [a0,a1,a2,a3,a4,a5,a6,a7,a8,a9,a10,a11,a12,a13,a14],_ =>
  simp [val,dv]
  omega
theorem dv_bd (l : List UInt8) (k : Nat) (h : digit (l.getD k 0) = true) : 0 ≤ dv l k ∧ dv l k ≤ 9:=by
 rw [digit_iff] at h
 unfold dv
 omega

set_option maxHeartbeats 400000 in
theorem rParse_long (s : ByteArray) (w : World) (hn : s.size ≠ 15) :
  Calls Tryz.prog 84 #[.string s] w fun e w' => e = .returned (.tuple #[.int .i64 0,.int .i64 14]) ∧ Below w.heap.size w w':=by
 have h15 : ((s.size : Int) != 15) = true:=by rw [bne_iff_ne]; omega
 have h15' : ((s.size : Int) == 15) = false:=by rw [beq_eq_false_iff_ne]; omega
 go_enter Tryz.func84,Tryz.ntmps84
 go_wp2_with fail
 go_ret2
 exact ⟨rfl,Below.refl _ _⟩
set_option maxHeartbeats 400000 in
theorem rParse_mid (s : ByteArray) (w : World) (hn : s.size = 15) (ht : (((s[8]'(by omega)).toNat : Int) != 84) = true) :
  Calls Tryz.prog 84 #[.string s] w fun e w' => e = .returned (.tuple #[.int .i64 0,.int .i64 14]) ∧ Below w.heap.size w w':=by
 go_enter Tryz.func84,Tryz.ntmps84
 go_wp2_with fail
 go_ret2
 exact ⟨rfl,Below.refl _ _⟩
set_option maxHeartbeats 400000 in
theorem rParse_end (s : ByteArray) (w : World) (hn : s.size = 15) (ht : (((s[8]'(by omega)).toNat : Int) != 84) = false) (he : ((s.extract 13 15).toList == [48,48]) = false) :
  Calls Tryz.prog 84 #[.string s] w fun e w' => e = .returned (.tuple #[.int .i64 0,.int .i64 14]) ∧ Below w.heap.size w w':=by
 go_enter Tryz.func84,Tryz.ntmps84
 go_wp2_with fail
 go_ret2
 exact ⟨rfl,Below.refl _ _⟩

end Go.Proofs.YtgdjeddelcfgeaaGreatDoor

namespace Go.Proofs.YtgdjeddelcfgeaaGreatDoor
open Go.RowKit

theorem arr_next (s : ByteArray) (k : Nat) (h : k < s.size) : arr s.data.toList (k + 1) = (arr s.data.toList k).setIfInBounds k (.int .i64 ((s[k].toNat : Int) - 48)):=by
 have e : s.data.toList.getD k 0 = s[k]:=by rw [mem_getD _ k (by simpa using h)]; rfl
 rw [arr,dv,e]
theorem getD_at (s : ByteArray) (k : Nat) (h : k < s.size) : s.data.toList.getD k 0 = s[k]:=by rw [mem_getD _ k (by simpa using h)]; rfl
def AllDig (l : List UInt8) (k : Nat) : Prop:=∀ j,j < k → j ≠ 8 → digit (l.getD j 0) = true
theorem allDig_next (l : List UInt8) (k : Nat) (h : AllDig l k) (hd : k ≠ 8 → digit (l.getD k 0) = true) : AllDig l (k + 1):=by
 intro j hj h8
 by_cases e : j = k
 ·subst e; exact hd h8
 ·exact h j (by omega) h8

set_option maxRecDepth 100000 in
set_option maxHeartbeats 2000000 in
theorem rParse_go (s : ByteArray) (w : World) (hn : s.size = 15) (ht : (((s[8]'(by omega)).toNat : Int) != 84) = false) (he : ((s.extract 13 15).toList == [48,48]) = true) (hf : ∀ k,k < 15 → k ≠ 8 → digit (s.data.toList.getD k 0) = false → formB s.data.toList = false)
  (hg : AllDig s.data.toList 15 → formB s.data.toList = true) :
  Calls Tryz.prog 84 #[.string s] w fun e w' => e = .returned (.tuple #[.int .i64 (parseE s.data.toList).1,.int .i64 (parseE s.data.toList).2]) ∧ Below w.heap.size w w':=by
 have HF:=hide hf
 have HG:=hide hg
 clear hf hg
 go_enter Tryz.func84,Tryz.ntmps84
 go_wp2_with fail
 go_loopw [5] (fun i wr => ∃ k : Nat,k ≤ 15 ∧ i = .int .i64 k ∧ wr = w.alloc (.cells (arr s.data.toList k) 158) ∧ Hid (AllDig s.data.toList k)) (fun i _ => 15 - (intOf i).toNat)
 case atStart => exact ⟨0,Nat.zero_le _,rfl,rfl,fun j hj => absurd hj (by omega)⟩
 case round =>
  obtain ⟨k,hk,rfl,rfl,hall⟩:=hrel
  by_cases hlt : k < 15
  ·have hks : k < s.size:=by omega
   obtain ⟨v,hv⟩:=Option.isSome_iff_exists.1 (arr_some s.data.toList k hlt)
   have HA:=hide (arr_next s k hks)
   have HE:=hide (getD_at s k hks)
   have h15 : (k : Int) < 15:=by omega
   have hu : (s[k].toNat : Int) ≤ 255:=by have:=UInt8.toNat_lt s[k]; omega
   by_cases h8 : k = 8
   ·subst h8
    have HN:=hide (allDig_next _ 8 hall.out (fun h => absurd rfl h))
    go_wp2_with fail
    go_roundw
    case rel => exact ⟨9,by omega,rfl,by rw [HA.out],HN⟩
    case measure => simp [intOf]
   ·have h8' : ((k : Int) != 8) = true:=by rw [bne_iff_ne]; omega
    by_cases c1 : (s[k].toNat : Int) < 48
    ·have HB:=hide (HF.out k hlt h8 (by rw [HE.out]; exact digit_low _ c1))
     go_wp2_with fail
     go_ret2
     exact ⟨by unfold parseE; rw [HB.out]; rfl,(Below.refl _ _).alloc (Nat.le_refl _) _⟩
    ·by_cases c2 : 57 < (s[k].toNat : Int)
     ·have HB:=hide (HF.out k hlt h8 (by rw [HE.out]; exact digit_high _ c2))
      go_wp2_with fail
      go_ret2
      exact ⟨by unfold parseE; rw [HB.out]; rfl,(Below.refl _ _).alloc (Nat.le_refl _) _⟩
     ·have HN:=hide (allDig_next _ k hall.out (fun _ => by rw [HE.out]; exact digit_in _ c1 c2))
      go_wp2_with fail
      go_roundw
      case rel => exact ⟨k + 1,by omega,by go_num,by rw [HA.out],HN⟩
      case measure => simp [intOf]; omega
  ·obtain rfl : k = 15:=by omega
   have hlen : s.data.toList.length = 15:=by simpa using hn
   have hd:=hall.out
   have HPE : Hid (parseE s.data.toList = minE (1000 * dv s.data.toList 0 + 100 * dv s.data.toList 1 + 10 * dv s.data.toList 2 + dv s.data.toList 3) (10 * dv s.data.toList 4 + dv s.data.toList 5) (10 * dv s.data.toList 6 + dv s.data.toList 7) (10 * dv s.data.toList 9 + dv s.data.toList 10) (10 * dv s.data.toList 11 + dv s.data.toList 12)):=by
    have hv:=val_fields _ hlen
    show _ = _
    unfold parseE
    rw [HG.out hd,if_pos rfl,hv.1,hv.2.1,hv.2.2.1,hv.2.2.2.1,hv.2.2.2.2]
   have b0:=dv_bd _ 0 (hd 0 (by omega) (by omega))
   have b1:=dv_bd _ 1 (hd 1 (by omega) (by omega))
   have b2:=dv_bd _ 2 (hd 2 (by omega) (by omega))
   have b3:=dv_bd _ 3 (hd 3 (by omega) (by omega))
   have b4:=dv_bd _ 4 (hd 4 (by omega) (by omega))
   have b5:=dv_bd _ 5 (hd 5 (by omega) (by omega))
   have b6:=dv_bd _ 6 (hd 6 (by omega) (by omega))
   have b7:=dv_bd _ 7 (hd 7 (by omega) (by omega))
   have b9:=dv_bd _ 9 (hd 9 (by omega) (by omega))
   have b10:=dv_bd _ 10 (hd 10 (by omega) (by omega))
   have b11:=dv_bd _ 11 (hd 11 (by omega) (by omega))
   have b12:=dv_bd _ 12 (hd 12 (by omega) (by omega))
   have q0:=arr_done s.data.toList 15 0 (by omega) (by omega)
   have q1:=arr_done s.data.toList 15 1 (by omega) (by omega)
   have q2:=arr_done s.data.toList 15 2 (by omega) (by omega)
   have q3:=arr_done s.data.toList 15 3 (by omega) (by omega)
   have q4:=arr_done s.data.toList 15 4 (by omega) (by omega)
   have q5:=arr_done s.data.toList 15 5 (by omega) (by omega)
   have q6:=arr_done s.data.toList 15 6 (by omega) (by omega)
   have q7:=arr_done s.data.toList 15 7 (by omega) (by omega)
   have q9:=arr_done s.data.toList 15 9 (by omega) (by omega)
   have q10:=arr_done s.data.toList 15 10 (by omega) (by omega)
   have q11:=arr_done s.data.toList 15 11 (by omega) (by omega)
   have q12:=arr_done s.data.toList 15 12 (by omega) (by omega)
   clear hd hall
   generalize dv s.data.toList 0 = D0 at *
   generalize dv s.data.toList 1 = D1 at *
   generalize dv s.data.toList 2 = D2 at *
   generalize dv s.data.toList 3 = D3 at *
   generalize dv s.data.toList 4 = D4 at *
   generalize dv s.data.toList 5 = D5 at *
   generalize dv s.data.toList 6 = D6 at *
   generalize dv s.data.toList 7 = D7 at *
   generalize dv s.data.toList 9 = D9 at *
   generalize dv s.data.toList 10 = D10 at *
   generalize dv s.data.toList 11 = D11 at *
   generalize dv s.data.toList 12 = D12 at *
   generalize arr s.data.toList 15 = A at *
   go_wp2_with fail
   refine (rMinute_any _ _ _ _ _ _).mono ?_
   rintro e w2 ⟨rfl,hb2⟩
   go_wp2_with fail
   go_ret2
   exact ⟨by rw [HPE.out]; rfl,(((Below.refl _ _).alloc (Nat.le_refl _) _).alloc (by simp) _).trans (hb2.mono (by simp; omega))⟩

theorem rParse_any (s : ByteArray) (w : World) :
  Calls Tryz.prog 84 #[.string s] w fun e w' => e = .returned (.tuple #[.int .i64 (parseE s.data.toList).1,.int .i64 (parseE s.data.toList).2]) ∧ Below w.heap.size w w':=by
 have hl : s.data.toList.length = s.size:=by simp
 have no : formB s.data.toList = false → parseE s.data.toList = (0,14):=fun h => by unfold parseE; rw [h]; rfl
 by_cases hn : s.size = 15
 ·have hlen : s.data.toList.length = 15:=hl.trans hn
  have e13 : (s.extract 13 15).toList = s.data.toList.drop 13:=by
   have:=Lib.extract_to_end s 13
   rw [hn] at this
   rw [ByteArray.toList_eq,this]
  cases ht : ((s[8]'(by omega)) == 84)
  ·rw [no (by unfold formB; rw [at_8 s hn,ht]; simp)]
   exact rParse_mid s w hn (by rw [not_84,ht]; rfl)
  ·have ht' : (((s[8]'(by omega)).toNat : Int) != 84) = false:=by rw [not_84,ht]; rfl
   cases he : (s.data.toList.drop 13 == [48,48])
   ·rw [no (by unfold formB; rw [he]; simp)]
    exact rParse_end s w hn ht' (by rw [e13,he])
   ·refine rParse_go s w hn ht' (by rw [e13,he]) (fun k hk h8 hd => form_fail _ hlen k hk h8 hd) (fun ha => form_ok _ hlen ?_ (by simpa using he) (fun k hk h8 => ha k hk h8))
    rw [at_8 s hn]
    simpa using ht
 ·rw [no (by unfold formB; rw [hl,decide_eq_false hn]; simp)]
  exact rParse_long s w hn

end Go.Proofs.YtgdjeddelcfgeaaGreatDoor

namespace Go.Proofs.YtgdjeddelcfgeaaGreatDoor
open Go.RowKit

end Go.Proofs.YtgdjeddelcfgeaaGreatDoor

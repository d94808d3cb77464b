/- FoA; FoB; FoC; FoE; FoG of the recipes, what is needed of them. -/
import Derived.Laws.RangeAny
import Derived.Laws.Runes
import Derived.Lib.DecodeN
import Derived.Lib.OthersKept
import Derived.Deep.LoopGhost
import Derived.Deep.QuietTactic
import Derived.BigQuiet
import Derived.IntWalk
import Derived.Lib.SplitLaws
import Derived.Test.YtgdjeddelcfgeaaGreatDoorXW3
import Derived.Test.YtgdjeddelcfgeaaGreatDoorXM2
import Derived.Test.YtgdjeddelcfgeaaGreatDoorXW4
import Derived.Test.YtgdjeddelcfgeaaGreatDoorXW5
namespace Go.Proofs.YtgdjeddelcfgeaaGreatDoor
open Go.RowKit Rul Rt Fo Go.Sort

def Bu (w : World) (b : Nat) (l : Tx) : Prop:=Lib.IsBuilder 99 5 b b (Lib.byteCells l) w
theorem bu_new (w : World) : Bu (w.alloc (.cells #[.pointer none,.slice none 0 0] 99)) w.heap.size []:=Lib.fresh_isBuilder _ _ w
theorem Bu.lt {w : World} {b : Nat} {l : Tx} (h : Bu w b l) : b < w.heap.size:=by
 rcases h with h | h
 ·exact Lib.BuilderAt.lt h
 ·exact Lib.BuilderAt.lt h
theorem ws_any (b : Nat) (l : Tx) (s : ByteArray) (w : World) (h : Bu w b l) (hl : l.length ≤ 1000000) (hs : s.size ≤ 1000000) :
  Calls Tryz.prog 71 #[.pointer (some ⟨b,0,none⟩),.string s] w fun e w' => e = .returned (.tuple #[.int .i64 s.size,.nilIface]) ∧ Bu w' b (l ++ s.data.toList) ∧ Below b w w':=by
 refine (Tryz.Builder_WriteString b b (Lib.byteCells l) s w h (by rw [Lib.byteCells_length]; omega) (Nat.le_of_lt h.lt)).mono ?_
 rintro e w' ⟨rfl,h1,hb⟩
 refine ⟨rfl,?_,hb⟩
 rw [Lib.strCells_eq,← Lib.byteCells_append] at h1
 exact Or.inr h1
theorem wb_any (b : Nat) (l : Tx) (c : UInt8) (C : Int) (hC : C = (c.toNat : Int)) (w : World) (h : Bu w b l) (hl : l.length ≤ 1000000) :
  Calls Tryz.prog 72 #[.pointer (some ⟨b,0,none⟩),.int .u8 C] w fun e w' => e = .returned .nilIface ∧ Bu w' b (l ++ [c]) ∧ Below b w w':=by
 subst hC
 refine (Tryz.Builder_WriteByte b b (Lib.byteCells l) c.toNat w h (by rw [Lib.byteCells_length]; omega) (Nat.le_of_lt h.lt)).mono ?_
 rintro e w' ⟨rfl,h1,hb⟩
 refine ⟨rfl,?_,hb⟩
 have e1 : Lib.byteCells l ++ [.int .u8 (c.toNat : Int)] = Lib.byteCells (l ++ [c]):=by rw [Lib.byteCells_append]; rfl
 rw [e1] at h1
 exact Or.inr h1
theorem bstr_any (b : Nat) (l : Tx) (w : World) (h : Bu w b l) :
  Calls Tryz.prog 73 #[.pointer (some ⟨b,0,none⟩)] w fun e w' => e = .returned (.string (str l)) ∧ Below b w w' :=
 Tryz.Builder_String_any b b l w h (Nat.le_of_lt h.lt)

end Go.Proofs.YtgdjeddelcfgeaaGreatDoor
namespace Go.Proofs.YtgdjeddelcfgeaaGreatDoor
open Go.RowKit Rul Rt Fo Go.Sort

theorem esc_mark (s : Tx) (c : UInt8) (h : c = 92 ∨ c = 59 ∨ c = 44) : escE (s ++ [c]) = (escE s ++ [92]) ++ [c]:=by
 rw [escE_snoc,escB,if_pos h,List.append_assoc]; rfl
theorem esc_end (s : Tx) : escE (s ++ [10]) = (escE s ++ [92]) ++ [110]:=by
 rw [escE_snoc,List.append_assoc]; rfl
theorem esc_plain (s : Tx) (c : UInt8) (h : ¬ (c = 92 ∨ c = 59 ∨ c = 44)) (h2 : c ≠ 10) : escE (s ++ [c]) = escE s ++ [c]:=by
 rw [escE_snoc,escB,if_neg h,if_neg h2]

set_option maxRecDepth 100000 in
set_option maxHeartbeats 1000000 in
theorem escape_any (s : ByteArray) (w : World) (hs : s.size ≤ 100000) :
  Calls Tryz.prog 38 #[.string s] w (Ans w (.string (str (escE s.data.toList)))):=by
 have HB0:=hide (bu_new w)
 have HW0 : Hid (Below w.heap.size w (w.alloc (.cells #[.pointer none,.slice none 0 0] 99))):=hide (more (start w) _)
 go_enter Tryz.func38,Tryz.ntmps38
 go_wp2_with fail
 go_loopw [8] (fun i wr => ∃ k : Nat,k ≤ s.size ∧ i = .int .i64 k ∧ Hid (Bu wr w.heap.size (escE (s.data.toList.take k))) ∧ Hid (Below w.heap.size w wr)) (fun i _ => s.size - (intOf i).toNat)
 case atStart => exact ⟨0,Nat.zero_le _,rfl,HB0,HW0⟩
 case round =>
  obtain ⟨k,hk,rfl,HB,HW⟩:=hrel
  by_cases hlt : k < s.size
  ·have HT:=hide (take_next s k hlt)
   have HL : Hid ((escE (s.data.toList.take k)).length ≤ 300000):=hide (by have:=escE_len (s.data.toList.take k); rw [List.length_take] at this; omega)
   obtain ⟨c,hc⟩ : ∃ c,s[k] = c:=⟨_,rfl⟩
   rw [hc] at HT
   have hmk : (str [92]).size ≤ 1000000:=by rw [str_size]; decide
   by_cases h1 : c = 92 ∨ c = 59 ∨ c = 44
   ·have HN:=hide (esc_mark (s.data.toList.take k) c h1)
    rw [← HT.out] at HN
    generalize escE (s.data.toList.take k) = E at *
    obtain ⟨q1,q2,q3⟩ : (((c.toNat : Int) == 92) = true ∨ (((c.toNat : Int) == 92) = false ∧ ((c.toNat : Int) == 59) = true) ∨ (((c.toNat : Int) == 92) = false ∧ ((c.toNat : Int) == 59) = false ∧ ((c.toNat : Int) == 44) = true)) ∧ True ∧ True:=by
     refine ⟨?_,trivial,trivial⟩
     rcases h1 with rfl | rfl | rfl
     ·exact Or.inl (by decide)
     ·exact Or.inr (Or.inl ⟨by decide,by decide⟩)
     ·exact Or.inr (Or.inr ⟨by decide,by decide,by decide⟩)
    clear h1 q2 q3
    rcases q1 with q1 | ⟨q1,q2⟩ | ⟨q1,q2,q3⟩
    all_goals
     go_wp2_with fail
     refine (ws_any _ E (str [92]) wr HB.out (by have:=HL.out; omega) hmk).mono ?_
     rintro e w1 ⟨rfl,h1,b1⟩
     have H1:=hide h1
     have B1:=hide (HW.out.trans b1)
     clear h1 b1
     go_wp2_with fail
     refine (wb_any _ (E ++ [92]) c _ rfl w1 H1.out (by have:=HL.out; rw [List.length_append]; simp; omega)).mono ?_
     rintro e w2 ⟨rfl,h2,b2⟩
     have H2:=hide h2
     have B2:=hide (B1.out.trans b2)
     clear h2 b2
     go_wp2_with fail
     go_roundw
     case rel => exact ⟨k + 1,by omega,by go_num,by rw [HN.out]; exact H2,B2⟩
     case measure => simp [intOf]; omega
   ·have q1 : ((c.toNat : Int) == 92) = false:=by rw [show (92 : Int) = ((92 : UInt8).toNat : Int) from rfl,byte_eq]; simp; exact fun e => h1 (Or.inl e)
    have q2 : ((c.toNat : Int) == 59) = false:=by rw [show (59 : Int) = ((59 : UInt8).toNat : Int) from rfl,byte_eq]; simp; exact fun e => h1 (Or.inr (Or.inl e))
    have q3 : ((c.toNat : Int) == 44) = false:=by rw [show (44 : Int) = ((44 : UInt8).toNat : Int) from rfl,byte_eq]; simp; exact fun e => h1 (Or.inr (Or.inr e))
    by_cases h2 : c = 10
    ·subst h2
     have HN:=hide (esc_end (s.data.toList.take k))
     rw [← HT.out] at HN
     generalize escE (s.data.toList.take k) = E at *
     clear h1
     go_wp2_with fail
     refine (ws_any _ E (str [92]) wr HB.out (by have:=HL.out; omega) hmk).mono ?_
     rintro e w1 ⟨rfl,h1,b1⟩
     have H1:=hide h1
     have B1:=hide (HW.out.trans b1)
     clear h1 b1
     go_wp2_with fail
     refine (wb_any _ (E ++ [92]) 110 _ rfl w1 H1.out (by have:=HL.out; rw [List.length_append]; simp; omega)).mono ?_
     rintro e w2 ⟨rfl,h2,b2⟩
     have H2:=hide h2
     have B2:=hide (B1.out.trans b2)
     clear h2 b2
     go_wp2_with fail
     go_roundw
     case rel => exact ⟨k + 1,by omega,by go_num,by rw [HN.out]; exact H2,B2⟩
     case measure => simp [intOf]; omega
    ·have q4 : ((c.toNat : Int) == 10) = false:=by rw [show (10 : Int) = ((10 : UInt8).toNat : Int) from rfl,byte_eq]; simp; exact h2
     have HN:=hide (esc_plain (s.data.toList.take k) c h1 h2)
     rw [← HT.out] at HN
     generalize escE (s.data.toList.take k) = E at *
     clear h1 h2
     go_wp2_with fail
     refine (wb_any _ E c _ rfl wr HB.out (by have:=HL.out; omega)).mono ?_
     rintro e w2 ⟨rfl,h2,b2⟩
     have H2:=hide h2
     have B2:=hide (HW.out.trans b2)
     clear h2 b2
     go_wp2_with fail
     go_roundw
     case rel => exact ⟨k + 1,by omega,by go_num,by rw [HN.out]; exact H2,B2⟩
     case measure => simp [intOf]; omega
  ·obtain rfl : k = s.size:=by omega
   have HF : Hid (s.data.toList.take s.size = s.data.toList):=hide (List.take_of_length_le (by simp))
   rw [HF.out] at HB
   go_wp2_with fail
   refine (bstr_any _ _ wr HB.out).mono ?_
   rintro e w1 ⟨rfl,b1⟩
   have B1:=hide (HW.out.trans b1)
   clear b1
   go_wp2_with fail
   go_ret
   exact ⟨rfl,B1.out⟩

def meanA (t : Tx) : Value:=match t with
 | [] => .tuple #[.int .u8 0,.bool false]
 | d :: _ => match mean d with
  | none => .tuple #[.int .u8 0,.bool false]
  | some b => .tuple #[.int .u8 b.toNat,.bool true]
set_option maxRecDepth 100000 in
set_option maxHeartbeats 1000000 in
theorem meant_any (t : ByteArray) (w : World) : Calls Tryz.prog 216 #[.string t] w fun e w' => e = .returned (meanA t.data.toList) ∧ w = w':=by
 cases hl : t.data.toList with
 | nil =>
  have hq : (t.toList == ([] : List UInt8)) = true:=by rw [ByteArray.toList_eq,hl]; rfl
  go_enter Tryz.func216,Tryz.ntmps216
  go_wp2_with fail
  go_ret2
  exact ⟨rfl,rfl⟩
 | cons d u =>
  have hz : 0 < t.size:=by rw [← len_of,hl]; simp
  have hd : t[0] = d:=by
   have h1 : t.data.toList[0]'(by rw [hl]; simp) = d:=by simp [hl]
   exact h1
  have hq : (t.toList == ([] : List UInt8)) = false:=by rw [ByteArray.toList_eq,hl]; rfl
  have hz1 : (0 : Int) < (t.size : Int):=by omega
  clear hl
  by_cases h1 : d = 92 ∨ d = 59 ∨ d = 44
  ·have HA : Hid (meanA (d :: u) = .tuple #[.int .u8 d.toNat,.bool true]):=hide (by unfold meanA; simp only [mean,if_pos h1])
   have q1 : (((d.toNat : Int) == 92) = true ∨ (((d.toNat : Int) == 92) = false ∧ ((d.toNat : Int) == 59) = true) ∨ (((d.toNat : Int) == 92) = false ∧ ((d.toNat : Int) == 59) = false ∧ ((d.toNat : Int) == 44) = true)):=by
    rcases h1 with rfl | rfl | rfl
    ·exact Or.inl (by decide)
    ·exact Or.inr (Or.inl ⟨by decide,by decide⟩)
    ·exact Or.inr (Or.inr ⟨by decide,by decide,by decide⟩)
   clear h1
   rw [HA.out]
   rcases q1 with q1 | ⟨q1,q2⟩ | ⟨q1,q2,q3⟩
   all_goals
    go_enter Tryz.func216,Tryz.ntmps216
    go_wp2_with fail
    go_ret2
    exact ⟨rfl,rfl⟩
  ·have q1 : ((d.toNat : Int) == 92) = false:=by rw [show (92 : Int) = ((92 : UInt8).toNat : Int) from rfl,byte_eq]; simp; exact fun e => h1 (Or.inl e)
   have q2 : ((d.toNat : Int) == 59) = false:=by rw [show (59 : Int) = ((59 : UInt8).toNat : Int) from rfl,byte_eq]; simp; exact fun e => h1 (Or.inr (Or.inl e))
   have q3 : ((d.toNat : Int) == 44) = false:=by rw [show (44 : Int) = ((44 : UInt8).toNat : Int) from rfl,byte_eq]; simp; exact fun e => h1 (Or.inr (Or.inr e))
   by_cases h2 : d = 110 ∨ d = 78
   ·have HA : Hid (meanA (d :: u) = .tuple #[.int .u8 10,.bool true]):=hide (by unfold meanA; simp only [mean,if_neg h1,if_pos h2]; rfl)
    have q4 : (((d.toNat : Int) == 110) = true ∨ (((d.toNat : Int) == 110) = false ∧ ((d.toNat : Int) == 78) = true)):=by
     rcases h2 with rfl | rfl
     ·exact Or.inl (by decide)
     ·exact Or.inr ⟨by decide,by decide⟩
    clear h1 h2
    rw [HA.out]
    rcases q4 with q4 | ⟨q4,q5⟩
    all_goals
     go_enter Tryz.func216,Tryz.ntmps216
     go_wp2_with fail
     go_ret2
     exact ⟨rfl,rfl⟩
   ·have HA : Hid (meanA (d :: u) = .tuple #[.int .u8 0,.bool false]):=hide (by unfold meanA; simp only [mean,if_neg h1,if_neg h2])
    have q4 : ((d.toNat : Int) == 110) = false:=by rw [show (110 : Int) = ((110 : UInt8).toNat : Int) from rfl,byte_eq]; simp; exact fun e => h2 (Or.inl e)
    have q5 : ((d.toNat : Int) == 78) = false:=by rw [show (78 : Int) = ((78 : UInt8).toNat : Int) from rfl,byte_eq]; simp; exact fun e => h2 (Or.inr e)
    clear h1 h2
    rw [HA.out]
    go_enter Tryz.func216,Tryz.ntmps216
    go_wp2_with fail
    go_ret2
    exact ⟨rfl,rfl⟩

end Go.Proofs.YtgdjeddelcfgeaaGreatDoor
namespace Go.Proofs.YtgdjeddelcfgeaaGreatDoor
open Go.RowKit Rul Rt Fo Go.Sort

theorem byte_at (s : ByteArray) (j : Nat) (h : j < s.size) : s.get! j = s[j]:=by
 have:=get_at s j h
 simpa using this
theorem decode_width (s : ByteArray) (pos : Nat) (h : pos < s.size) (ha : 128 ≤ (s[pos]'h).toNat) :
  ∀ j,pos ≤ j → j < pos + (Utf8.decode s pos).2 → ∃ hj : j < s.size,128 ≤ (s[j]'hj).toNat:=by
 have key : ∀ j,pos ≤ j → j < pos + (Utf8.decode s pos).2 → j < s.size ∧ 128 ≤ (s.get! j).toNat:=by
  intro j h1 h2
  have hb : 128 ≤ (s.get! pos).toNat:=by rw [byte_at s pos h]; exact ha
  rw [Lib.decode_at] at h2
  obtain ⟨d,rfl⟩ : ∃ d,j = pos + d:=⟨j - pos,by omega⟩
  generalize e0 : (s.get! pos).toNat = b0 at *
  generalize e1 : (s.get! (pos + 1)).toNat = b1 at *
  generalize e2 : (s.get! (pos + 2)).toNat = b2 at *
  generalize e3 : (s.get! (pos + 3)).toNat = b3 at *
  have hd : d < (Lib.decodeN (s.size - pos) b0 b1 b2 b3).2:=by omega
  clear h1 h2
  have done : (d = 0 ∨ (d = 1 ∧ 1 < s.size - pos ∧ 128 ≤ b1) ∨ (d = 2 ∧ 2 < s.size - pos ∧ 128 ≤ b2) ∨ (d = 3 ∧ 3 < s.size - pos ∧ 128 ≤ b3)):=by
   unfold Lib.decodeN at hd
   repeat' split at hd
   all_goals (simp only at hd; omega)
  rcases done with rfl | ⟨rfl,g1,g2⟩ | ⟨rfl,g1,g2⟩ | ⟨rfl,g1,g2⟩
  ·exact ⟨h,by rw [Nat.add_zero,e0]; exact hb⟩
  ·exact ⟨by omega,by rw [e1]; exact g2⟩
  ·exact ⟨by omega,by rw [e2]; exact g2⟩
  ·exact ⟨by omega,by rw [e3]; exact g2⟩
 intro j h1 h2
 obtain ⟨g1,g2⟩:=key j h1 h2
 exact ⟨g1,by rw [← byte_at s j g1]; exact g2⟩
theorem indexByte_high (l : List UInt8) (c : UInt8) (h : c ∉ l) : ¬ (0 : Int) ≤ Lib.indexByte l c:=by
 have e:=Lib.contains_iff_indexByte l c
 have : l.contains c = false:=by simpa using h
 rw [this] at e
 exact of_decide_eq_false e.symm
theorem not_mem_high {s : ByteArray} (hs : ∀ b ∈ s.data.toList,b.toNat < 128) {c : UInt8} (hc : 128 ≤ c.toNat) {l : List UInt8} (hl : ∀ b ∈ l,b ∈ s.data.toList) : c ∉ l:=fun g => by
 have:=hs c (hl c g); omega
theorem mem_ext {s : ByteArray} {a : Nat} {b : UInt8} (h : b ∈ (s.extract a s.size).data.toList) : b ∈ s.data.toList:=by
 rw [ByteArray.data_extract,Array.toList_extract] at h
 exact List.mem_of_mem_drop (List.mem_of_mem_take h)

set_option maxRecDepth 100000 in
set_option maxHeartbeats 2000000 in
theorem rune_bad (s : ByteArray) (w : World) (hs : ∀ b ∈ s.data.toList,b.toNat < 128) :
  Calls Tryz.prog 269 #[.string s,.int .i32 65533] w (Ans w (.int .i64 (-1))):=by
 have HS:=hide hs
 clear hs
 go_enter Tryz.func269,Tryz.ntmps269
 go_wp2_with fail
 go_loopg [5,6] s.size (fun g _ _ wx => ∃ i : Nat,i + g = s.size ∧ wx = w.iter s i)
 case atStart => exact ⟨0,by omega,rfl⟩
 case round =>
  obtain ⟨i,hig,rfl⟩:=hrel
  cases gk with
  | zero =>
   obtain rfl : i = s.size:=by omega
   have hnx:=fun ty => run_next_end (P:=Tryz.prog) w s s.size ty (by omega)
   go_wp2_with fail
   go_ret
   exact ⟨rfl,more (start w) _⟩
  | succ g =>
   have hi : i < s.size:=by omega
   have hx : (s[i]'hi).toNat < 128:=HS.out _ (Array.getElem_mem_toList (xs:=s.data) hi)
   have hnx:=fun ty => run_next_ascii (P:=Tryz.prog) w s i ty hi hx
   have hq : (((s[i]'hi).toNat : Int) == 65533) = false:=by rw [beq_eq_false_iff_ne]; omega
   go_wp2_with fail
   go_roundg g
   case measure => omega
   case rel => exact ⟨i + 1,by omega,rfl⟩

set_option maxRecDepth 100000 in
set_option maxHeartbeats 2000000 in
theorem rune_none (s : ByteArray) (r : Int) (w : World) (h1 : 128 ≤ r) (h3 : r ≠ 65533) (hv : Lib.validRune r = false) :
  Calls Tryz.prog 269 #[.string s,.int .i32 r] w (Ans w (.int .i64 (-1))):=by
 have q1 : decide ((0 : Int) ≤ r) = true:=decide_eq_true (by omega)
 have q2 : decide (r < 128) = false:=decide_eq_false (by omega)
 have q3 : (r == 65533) = false:=beq_eq_false_iff_ne.2 h3
 have HV:=hide hv
 clear h3 hv
 go_enter Tryz.func269,Tryz.ntmps269
 go_wp2_with fail
 refine (Tryz.utf8_ValidRune r w).mono ?_
 rintro e w' ⟨rfl,rfl⟩
 rw [HV.out]
 go_wp2_with fail
 go_ret
 exact ⟨rfl,start _⟩

set_option maxRecDepth 100000 in
set_option maxHeartbeats 2000000 in
theorem rune_more (s : ByteArray) (r : Int) (w : World) (hs : ∀ b ∈ s.data.toList,b.toNat < 128) (h1 : 128 ≤ r) (h3 : r ≠ 65533) (hv : Lib.validRune r = true) :
  Calls Tryz.prog 269 #[.string s,.int .i32 r] w (Ans w (.int .i64 (-1))):=by
 have q1 : decide ((0 : Int) ≤ r) = true:=decide_eq_true (by omega)
 have q2 : decide (r < 128) = false:=decide_eq_false (by omega)
 have q3 : (r == 65533) = false:=beq_eq_false_iff_ne.2 h3
 obtain ⟨z1,z2,z3⟩:=encode_facts r (by rw [validRune_eq]; exact hv) h1
 have HV:=hide hv
 have hcv : ∀ W : World,(convert 21 9 (.int .i32 r)).run Tryz.prog W = .ok (.string (Utf8.encode r)) W:=fun W => run_convert_int_string W _ _ _ _ (by kernel_rfl) Tryz.underlying9
 generalize Utf8.encode r = E at *
 obtain ⟨n,hn⟩ : ∃ n,E.size = n + 1:=⟨E.size - 1,by omega⟩
 have hb:=z3 (by omega)
 have hnz : (E.size : Int) = (n : Int) + 1:=by omega
 have hE : n < E.size:=by omega
 have HB : Hid (128 ≤ (E[n]'hE).toNat):=hide (by
  have e : E.size - 1 = n:=by omega
  simpa [e] using hb)
 have hn1 : 1 ≤ n:=by omega
 have hn2 : n ≤ 3:=by omega
 have hsub : (E.size : Int) - 1 = (n : Int):=by omega
 clear h3 hv z1 z2 z3 hb
 have HS:=hide hs
 clear hs
 go_enter Tryz.func269,Tryz.ntmps269
 go_wp2_with fail
 refine (Tryz.utf8_ValidRune r w).mono ?_
 rintro e w' ⟨rfl,rfl⟩
 rw [HV.out]
 go_wp2_with fail
 go_step3
 go_wp2_with fail
 refine wp_loop_rounds 1 ?_
 rw [rounds_succ]
 by_cases hlt : n < s.size
 ·have hi1 : (n : Int) < (s.size : Int):=by omega
  have hi0 : (0 : Int) ≤ (n : Int):=by omega
  have hEz : (n : Int) < (E.size : Int):=by omega
  have hsn : (s[n]'hlt).toNat < 128:=HS.out _ (Array.getElem_mem_toList (xs:=s.data) hlt)
  obtain ⟨c,hc⟩ : ∃ c,E[n]'hE = c:=⟨_,rfl⟩
  obtain ⟨d,hd⟩ : ∃ d,s[n]'hlt = d:=⟨_,rfl⟩
  have hc2 : 128 ≤ c.toNat:=by rw [← hc]; exact HB.out
  have qn : ((d.toNat : Int) != (c.toNat : Int)) = true:=by rw [bne_iff_ne]; rw [hd] at hsn; omega
  obtain ⟨o,ho⟩ : ∃ o,Lib.indexByte (s.extract (n + 1) s.size).data.toList c = o:=⟨_,rfl⟩
  have ho0 : o < 0:=by
   have:=indexByte_high (s.extract (n + 1) s.size).data.toList c (not_mem_high HS.out hc2 fun b hb => mem_ext hb)
   rw [ho] at this; omega
  have HI : Hid (∀ W,Calls Tryz.prog 280 #[.string (s.extract (n + 1) s.size),.int .u8 (c.toNat : Int)] W fun e w' => e = .returned (.int .i64 o) ∧ w' = W):=hide (fun W => by
   have h:=Tryz.strings_IndexByte (s.extract (n + 1) s.size) (c.toNat : Int) W
   have hb : ((c.toNat : Int)).toNat.toUInt8 = c:=by simp
   rw [hb,ho] at h
   exact h)
  have hsl0 : (n : Int) + 1 ≤ (s.size : Int):=by omega
  have hsl1 : (0 : Int) ≤ (n : Int) + 1:=by omega
  have hsl2 : ((n : Int) + 1).toNat = n + 1:=by omega
  have hsl3 : IntKind.i64.wrap ((n : Int) + 1) = (n : Int) + 1:=IntWalk.i64_in _ (by omega)
  clear hc2 ho hsn HB HS HV hn hnz hsub hn1 hn2 h1 q1 q2 q3
  go_wp2_with fail
  go_step3
  go_wp2_with fail
  go_quiet (fail)
  have HQ:=hide (below_drawn (start w') nq)
  generalize w'.drewN nq = wq at *
  go_wp2_with fail
  go_quiet ((go_at_call 280; exact Calls.quiet_of_same (HI.out _)))
  go_wp2_with fail
  go_ret
  exact ⟨rfl,below_drawn HQ.out _⟩
 ·have hi1 : ¬ (n : Int) < (s.size : Int):=by omega
  go_wp2_with fail
  go_ret
  exact ⟨rfl,start _⟩

end Go.Proofs.YtgdjeddelcfgeaaGreatDoor
namespace Go.Proofs.YtgdjeddelcfgeaaGreatDoor
open Go.RowKit Rul Rt Fo Go.Sort

def need : Tx:=[59,44,10]
theorem need_ascii : ∀ b ∈ (str need).data.toList,b.toNat < 128:=by rw [str_list]; decide
theorem need_bad (c : UInt8) : need.contains c = bad c:=by
 unfold need bad
 simp only [List.contains_cons,List.contains_nil,Bool.or_false,Bool.or_assoc]
theorem need_high (c : UInt8) (h : 128 ≤ c.toNat) : need.contains c = false:=by
 rw [need_bad]
 unfold bad
 simp only [Bool.or_eq_false_iff,beq_eq_false_iff_ne]
 refine ⟨⟨?_,?_⟩,?_⟩ <;> (intro e; subst e; revert h; decide)
theorem indexAny_need : ∀ l : Tx,decide (0 ≤ Lib.indexAny l need) = l.any bad
 | [] => rfl
 | b :: l => by
  have ih:=indexAny_need l
  have hg:=Lib.indexAny_ge need l
  rw [List.any_cons,← need_bad b,← ih]
  have e : Lib.indexAny (b :: l) need = if need.contains b then 0 else if Lib.indexAny l need == -1 then -1 else Lib.indexAny l need + 1:=rfl
  rw [e]
  cases need.contains b with
  | true => rfl
  | false =>
   simp only [Bool.false_or,Bool.false_eq_true,if_false]
   by_cases h : Lib.indexAny l need = -1
   ·rw [h]; rfl
   ·rw [if_neg (by rw [beq_iff_eq]; exact h),decide_eq_true (by omega),decide_eq_true (by omega)]
theorem noAny_width {s : ByteArray} {i d : Nat} (h : Lib.NoAny s.data.toList need i) (hd : ∀ j,i ≤ j → j < i + d → ∃ hj : j < s.size,128 ≤ (s[j]'hj).toNat) : Lib.NoAny s.data.toList need (i + d):=fun j b hj hb => by
 rcases Nat.lt_or_ge j i with g | g
 ·exact h j b g hb
 ·obtain ⟨hl,hx⟩:=hd j g hj
  rw [Lib.data_getElem? s j hl] at hb
  injection hb with hb
  rw [← hb]; exact need_high _ hx

theorem rune_at (r : Int) (w : World) (h1 : 128 ≤ r) : Calls Tryz.prog 269 #[.string (str need),.int .i32 r] w (Ans w (.int .i64 (-1))):=by
 by_cases h3 : r = 65533
 ·subst h3; exact rune_bad _ w need_ascii
 ·cases hv : Lib.validRune r with
  | true => exact rune_more _ r w need_ascii h1 h3 hv
  | false => exact rune_none _ r w h1 h3 hv

def FindsB (w : World) (b : Bool) (e : Ending) (w' : World) : Prop:=∃ k : Int,e = .returned (.int .i64 k) ∧ decide (0 ≤ k) = b ∧ Below w.heap.size w w'

set_option maxRecDepth 100000 in
set_option maxHeartbeats 2000000 in
theorem indexAny_short (s : ByteArray) (w : World) (h8 : s.size ≤ 8) :
  Calls Tryz.prog 247 #[.string s,.string (str need)] w (FindsB w (s.data.toList.any bad)):=by
 have q0 : ((str need).toList == ([] : List UInt8)) = false:=by rw [str_tl]; rfl
 have q1 : (((str need).size : Int) == 1) = false:=by rw [str_size]; rfl
 have q2 : decide ((8 : Int) < (s.size : Int)) = false:=decide_eq_false (by omega)
 have HR:=hide rune_at
 have HA:=hide (fun (r : Int) (w : World) (h0 : 0 ≤ r) (h1 : r < 128) => Tryz.strings_IndexRune_ascii (str need) r w h0 h1)
 have HL : Hid ((str need).data.toList = need):=hide (str_list _)
 generalize str need = E at *
 rw [HL.out] at HA
 go_enter Tryz.func247,Tryz.ntmps247
 go_wp2_with fail
 refine (Tryz.strings_shouldUseASCIISet _ _).mono ?_
 rintro e w' ⟨rfl,rfl⟩
 rw [q2]
 go_wp2_with fail
 go_loopg [9,10] s.size (fun g _ _ wx => ∃ i : Nat,i + g = s.size ∧ Hid (wx.heap[w'.heap.size]? = some (.stringIter s i)) ∧ Hid (Lib.NoAny s.data.toList need i) ∧ Hid (Below w'.heap.size w' wx))
 case atStart => exact ⟨0,by omega,hide (World.iter_heap _ _ _),hide (Lib.NoAny.zero _ _),hide (more (start w') _)⟩
 case round =>
  obtain ⟨i,hig,HI,HN,HB⟩:=hrel
  cases gk with
  | zero =>
   obtain rfl : i = s.size:=by omega
   have hnx : ∀ ty,(Instr.next (.pointer (some ⟨w'.heap.size,0,none⟩)) true ty).run Tryz.prog wr = _:=fun ty => Lib.run_next_end_at wr w'.heap.size s s.size ty HI.out (Nat.lt_irrefl _)
   have HF : Hid (s.data.toList.any bad = false):=hide (by
    have h1:=HN.out
    rw [Lib.size_eq] at h1
    rw [← indexAny_need,Lib.indexAny_none h1]; rfl)
   go_wp2_with fail
   go_ret
   exact ⟨_,rfl,by rw [HF.out]; rfl,HB.out⟩
  | succ g =>
   have hi : i < s.size:=by omega
   obtain ⟨x,hx⟩ : ∃ x : UInt8,s[i]'hi = x:=⟨_,rfl⟩
   have HX : Hid (s.data.toList[i]? = some x):=hide (by rw [← hx]; exact Lib.data_getElem? s i hi)
   by_cases ha : x.toNat < 128
   ·have hnx : ∀ ty,(Instr.next (.pointer (some ⟨w'.heap.size,0,none⟩)) true ty).run Tryz.prog wr = _:=fun ty => Lib.run_next_ascii_at wr w'.heap.size s i ty HI.out hi (by rw [hx]; exact ha)
    rw [hx] at hnx
    have HI2:=hide (Lib.iterAt_heap wr w'.heap.size s i (i + 1) HI.out)
    have HB2:=hide (Lib.below_iterAt HB.out (Nat.le_refl _) s (i + 1))
    have HC:=hide (HA.out (x.toNat : Int) (wr.iterAt w'.heap.size s (i + 1)) (by omega) (by omega))
    have hback : ((x.toNat : Int)).toNat.toUInt8 = x:=by simp
    rw [hback] at HC
    obtain ⟨o,ho⟩ : ∃ o,Lib.indexByte need x = o:=⟨_,rfl⟩
    have hcon:=Lib.contains_iff_indexByte need x
    rw [ho] at HC hcon
    generalize wr.iterAt w'.heap.size s (i + 1) = w5 at *
    cases hin : need.contains x with
    | false =>
     rw [hin] at hcon
     have hlt : decide ((0 : Int) ≤ o) = false:=hcon.symm
     have HN2:=hide (HN.out.succ HX.out hin)
     clear hcon hin hx hback ho
     go_wp2_with fail
     refine (HC.out).mono ?_
     rintro e w6 ⟨rfl,rfl⟩
     go_wp2_with fail
     go_roundg g
     case measure => omega
     case rel => exact ⟨i + 1,by omega,HI2,HN2,HB2⟩
    | true =>
     rw [hin] at hcon
     have hlt : decide ((0 : Int) ≤ o) = true:=hcon.symm
     have HF : Hid (s.data.toList.any bad = true):=hide (by
      rw [← indexAny_need,Lib.indexAny_hit HN.out HX.out hin]; exact decide_eq_true (by omega))
     clear hcon hin hx hback ho
     go_wp2_with fail
     refine (HC.out).mono ?_
     rintro e w6 ⟨rfl,rfl⟩
     go_wp2_with fail
     go_ret
     exact ⟨_,rfl,by rw [HF.out]; exact decide_eq_true (by omega),HB2.out⟩
   ·have hnx : ∀ ty,(Instr.next (.pointer (some ⟨w'.heap.size,0,none⟩)) true ty).run Tryz.prog wr = _:=fun ty => Lib.run_next_any_at wr w'.heap.size s i ty HI.out hi
    have hh : 128 ≤ (s[i]'hi).toNat:=by rw [hx]; omega
    obtain ⟨g1,g2⟩:=decode_high s i hi hh
    have hd:=decode_width s i hi hh
    obtain ⟨r,hr⟩ : ∃ r,(Utf8.decode s i).1 = r:=⟨_,rfl⟩
    obtain ⟨d,hdd⟩ : ∃ d,(Utf8.decode s i).2 = d:=⟨_,rfl⟩
    rw [hr,hdd] at hnx
    rw [hr] at g1
    rw [hdd] at g2 hd
    have hid : i + d ≤ s.size:=by obtain ⟨h,_⟩:=hd (i + d - 1) (by omega) (by omega); omega
    have HN2:=hide (noAny_width HN.out hd)
    have HI2:=hide (Lib.iterAt_heap wr w'.heap.size s i (i + d) HI.out)
    have HB2:=hide (Lib.below_iterAt HB.out (Nat.le_refl _) s (i + d))
    have HC:=hide (HR.out (r : Int) (wr.iterAt w'.heap.size s (i + d)) (by omega))
    generalize wr.iterAt w'.heap.size s (i + d) = w5 at *
    clear hr hdd hd hx ha hh HX HI HB HN
    go_wp2_with fail
    refine (HC.out).mono ?_
    rintro e w6 ⟨rfl,hb6⟩
    have hk5 : w'.heap.size < w5.heap.size:=(Array.getElem?_eq_some_iff.1 HI2.out).1
    have HI3:=hide ((hb6.block _ hk5).trans HI2.out)
    have HB3:=hide (andthen HB2.out hb6)
    clear hb6
    go_wp2_with fail
    go_roundg (s.size - (i + d))
    case measure => omega
    case rel => exact ⟨i + d,by omega,HI3,HN2,HB3⟩

theorem indexAny_any (s : ByteArray) (w : World) (hs : s.size ≤ 1000000) :
  Calls Tryz.prog 247 #[.string s,.string (str need)] w (FindsB w (s.data.toList.any bad)):=by
 by_cases h8 : s.size ≤ 8
 ·exact indexAny_short s w h8
 ·refine (Tryz.strings_IndexAny_long (fun w => by kernel_rfl) s (str need) w (by rw [str_size]; decide) (by omega) (by omega) (by rw [str_size]; decide) (fun j b hb => need_ascii b (List.mem_of_getElem? hb))).mono ?_
  rintro e w' ⟨rfl,rfl⟩
  refine ⟨_,rfl,by rw [str_list]; exact indexAny_need _,more (more (start w) _) _⟩

set_option maxHeartbeats 400000 in
theorem containsAny_any (s : ByteArray) (w : World) (hs : s.size ≤ 1000000) :
  Calls Tryz.prog 215 #[.string s,.string (str need)] w (Ans w (.bool (s.data.toList.any bad))):=by
 have HA:=hide (indexAny_any s w hs)
 clear hs
 generalize str need = E at *
 go_enter Tryz.func215,Tryz.ntmps215
 go_wp2_with fail
 refine (HA.out).mono ?_
 rintro e w1 ⟨k,rfl,hk,hb⟩
 have HK:=hide hk
 clear hk
 go_wp2_with fail
 go_ret
 exact ⟨ret_bool HK.out,hb⟩

end Go.Proofs.YtgdjeddelcfgeaaGreatDoor
namespace Go.Proofs.YtgdjeddelcfgeaaGreatDoor
open Go.RowKit Rul Rt Fo Go.Sort

theorem Bu.keep {w w' : World} {b : Nat} {l : Tx} (h : Bu w b l) (hb : Below w.heap.size w w') : Bu w' b l:=by
 have hlt:=h.lt
 rcases h with h | h
 ·obtain ⟨h1,v,h2,h3,h4⟩:=h
  exact Or.inl ⟨h1,v,(hb.block _ hlt).trans h2,World.ownsRow.kept (row:=none) h3 ⟨hb.os,hb.tape,hb.output,hb.size,fun i hi _ => hb.block i hi⟩ (by cases v.ownBlock <;> simp),h4⟩
 ·obtain ⟨h1,v,h2,h3,h4⟩:=h
  exact Or.inr ⟨h1,v,(hb.block _ hlt).trans h2,World.ownsRow.kept (row:=none) h3 ⟨hb.os,hb.tape,hb.output,hb.size,fun i hi _ => hb.block i hi⟩ (by cases v.ownBlock <;> simp),h4⟩
def unA : Option Tx → Value
 | none => .tuple #[.string (str []),.int .i64 14]
 | some t => .tuple #[.string (str t),.int .i64 0]

def Cuts (w : World) (p r : Tx) (f : Bool) (e : Ending) (w' : World) : Prop:=e = .returned (.tuple #[.string (str p),.string (str r),.bool f]) ∧ Below w.heap.size w w'
theorem cut_none (T : ByteArray) (w : World) (he : Env w) (ht : T.size ≤ 1000000) (h : Lib.index T.data.toList [92] = -1) :
  Calls Tryz.prog 113 #[.string T,.string (str [92])] w (Cuts w T.data.toList [] false):=by
 obtain ⟨m,hm⟩:=he.len
 refine (Tryz.strings_Cut T (str [92]) m w (by omega) hm).mono ?_
 rintro e w' ⟨rfl,n,rfl⟩
 have e2 : Lib.cut T.data.toList (str [92]).data.toList = (T.data.toList,[],false):=by
  rw [str_list]; unfold Lib.cut; rw [h,if_neg (by decide)]
 rw [e2]
 exact ⟨rfl,below_drawn (start _) n⟩
theorem cut_some (T : ByteArray) (w : World) (he : Env w) (ht : T.size ≤ 1000000) (i : Nat) (h : Lib.index T.data.toList [92] = (i : Int)) :
  Calls Tryz.prog 113 #[.string T,.string (str [92])] w (Cuts w (T.data.toList.take i) (T.data.toList.drop (i + 1)) true):=by
 obtain ⟨m,hm⟩:=he.len
 refine (Tryz.strings_Cut T (str [92]) m w (by omega) hm).mono ?_
 rintro e w' ⟨rfl,n,rfl⟩
 have e2 : Lib.cut T.data.toList (str [92]).data.toList = (T.data.toList.take i,T.data.toList.drop (i + 1),true):=by
  rw [str_list]; unfold Lib.cut; rw [h,if_pos (by omega)]; rfl
 rw [e2]
 exact ⟨rfl,below_drawn (start _) n⟩
theorem any_at (p : Tx) (b : Bool) (w : World) (h : p.any bad = b) (hp : p.length ≤ 1000000) : Calls Tryz.prog 215 #[.string (str p),.string (str need)] w (Ans w (.bool b)):=by
 have:=containsAny_any (str p) w (by rw [str_size]; exact hp)
 rw [str_list,h] at this
 exact this
theorem meant_at (r : Tx) (w : World) : Calls Tryz.prog 216 #[.string (str r)] w fun e w' => e = .returned (meanA r) ∧ w = w':=by
 have:=meant_any (str r) w
 rw [str_list] at this
 exact this

set_option maxRecDepth 100000 in
set_option maxHeartbeats 400000 in
theorem unescape_any (s : ByteArray) (w : World) (he : Env w) (hs : s.size ≤ 100000) :
  Calls Tryz.prog 188 #[.string s] w (Ans w (unA (unE s.data.toList))):=by
 have HB0:=hide (bu_new w)
 have HW0 : Hid (Below w.heap.size w (w.alloc (.cells #[.pointer none,.slice none 0 0] 99))):=hide (more (start w) _)
 have HEN:=hide he
 clear he
 go_enter Tryz.func188,Tryz.ntmps188
 go_wp2_with fail
 go_loopg [0,5,6,7,8,9] s.size (fun g S _ _ _ _ _ wr => ∃ (T : ByteArray) (E : Tx),S = .string T ∧ T.size = g ∧ Hid (Bu wr w.heap.size E) ∧ Hid (unE s.data.toList = (unE T.data.toList).map (E ++ ·)) ∧ Hid (E.length + T.size ≤ s.size) ∧ Hid (Below w.heap.size w wr))
 case atStart => exact ⟨s,[],rfl,rfl,HB0,hide (by rw [map_nil]),hide (by simp),HW0⟩
 case round =>
  obtain ⟨T,E,rfl,hg,HB,HU,HL,HW⟩:=hrel
  have hT1 : T.size ≤ 1000000:=by have:=HL.out; omega
  have HEV:=hide (HEN.out.below HW.out (Nat.le_refl _))
  rcases index_mark T.data.toList with ⟨hi,hm⟩ | ⟨i,hi,hlt,hm,hc⟩
  ·have HC:=hide (cut_none T wr HEV.out hT1 hi)
   obtain ⟨t,ht⟩ : ∃ t,T.data.toList = t:=⟨_,rfl⟩
   have htl : t.length = T.size:=by rw [← ht,len_of]
   rw [ht] at HC HU hm
   cases hb : t.any bad with
   | true =>
    have HF : Hid (unE s.data.toList = none):=hide (unE_stop (t:=[]) HU.out (by rw [List.append_nil]) hm hb)
    have HA:=hide (fun w => any_at t true w hb (by omega))
    clear hm hb ht hi htl hT1 hg
    rw [HF.out]
    go_wp2_with fail
    refine (HC.out).mono ?_
    rintro e w1 ⟨rfl,b1⟩
    have B1:=hide (andthen HW.out b1)
    clear b1
    go_wp2_with fail
    refine (HA.out _).mono ?_
    rintro e w2 ⟨rfl,b2⟩
    have B2:=hide (andthen B1.out b2)
    clear b2
    go_wp2_with fail
    go_ret2
    exact ⟨rfl,B2.out⟩
   | false =>
    have HF : Hid (unE s.data.toList = some (E ++ t)):=hide (unE_done HU.out hm hb)
    have HA:=hide (fun w => any_at t false w hb (by omega))
    have HLN : Hid (E.length ≤ 1000000 ∧ (str t).size ≤ 1000000):=hide (by rw [str_size]; have:=HL.out; omega)
    clear hm hb ht hi htl hT1 hg
    rw [HF.out]
    go_wp2_with fail
    refine (HC.out).mono ?_
    rintro e w1 ⟨rfl,b1⟩
    have B1:=hide (andthen HW.out b1)
    replace HB:=hide (HB.out.keep b1)
    clear b1
    go_wp2_with fail
    refine (HA.out _).mono ?_
    rintro e w2 ⟨rfl,b2⟩
    have B2:=hide (andthen B1.out b2)
    replace HB:=hide (HB.out.keep b2)
    clear b2
    go_wp2_with fail
    refine (ws_any _ E (str t) w2 HB.out HLN.out.1 HLN.out.2).mono ?_
    rintro e w3 ⟨rfl,h3,b3⟩
    rw [str_list] at h3
    have H3:=hide h3
    have B3:=hide (B2.out.trans b3)
    clear h3 b3
    go_wp2_with fail
    refine (bstr_any _ _ w3 H3.out).mono ?_
    rintro e w4 ⟨rfl,b4⟩
    have B4:=hide (B3.out.trans b4)
    clear b4
    go_wp2_with fail
    go_ret2
    exact ⟨rfl,B4.out⟩
  ·have HC:=hide (cut_some T wr HEV.out hT1 i hi)
   obtain ⟨p,hp⟩ : ∃ p,T.data.toList.take i = p:=⟨_,rfl⟩
   obtain ⟨r,hr⟩ : ∃ r,T.data.toList.drop (i + 1) = r:=⟨_,rfl⟩
   have hlp : p.length + r.length + 1 = T.size:=by
    rw [← hp,← hr,List.length_take,List.length_drop]; rw [len_of] at *; omega
   rw [hp,hr] at HC hc
   rw [hp] at hm
   cases hb : p.any bad with
   | true =>
    have HF : Hid (unE s.data.toList = none):=hide (unE_stop HU.out hc hm hb)
    have HA:=hide (fun w => any_at p true w hb (by omega))
    clear hm hb hp hr hi hlp hT1 hg hc hlt
    rw [HF.out]
    go_wp2_with fail
    refine (HC.out).mono ?_
    rintro e w1 ⟨rfl,b1⟩
    have B1:=hide (andthen HW.out b1)
    clear b1
    go_wp2_with fail
    refine (HA.out _).mono ?_
    rintro e w2 ⟨rfl,b2⟩
    have B2:=hide (andthen B1.out b2)
    clear b2
    go_wp2_with fail
    go_ret2
    exact ⟨rfl,B2.out⟩
   | false =>
    have HA:=hide (fun w => any_at p false w hb (by omega))
    have HLN : Hid (E.length ≤ 1000000 ∧ (str p).size ≤ 1000000):=hide (by rw [str_size]; have:=HL.out; omega)
    have HM:=hide (fun w => meant_at r w)
    have hodd : (r = [] ∨ ∃ d u,r = d :: u ∧ mean d = none) → unE s.data.toList = none:=fun h => unE_odd HU.out hc hm hb h
    have hnext : ∀ d u b,r = d :: u → mean d = some b → unE s.data.toList = (unE u).map (((E ++ p) ++ [b]) ++ ·):=fun d u b h1 h2 => unE_next HU.out (by rw [hc,h1]) hm hb h2
    rcases (by
     cases r with
     | nil => exact Or.inl ⟨Or.inl rfl,rfl⟩
     | cons d u =>
      cases hmd : mean d with
      | none => exact Or.inl ⟨Or.inr ⟨d,u,rfl,hmd⟩,by simp only [meanA,hmd]⟩
      | some b => exact Or.inr ⟨d,u,b,rfl,hmd,by simp only [meanA,hmd]⟩ :
     ((r = [] ∨ ∃ d u,r = d :: u ∧ mean d = none) ∧ meanA r = .tuple #[.int .u8 0,.bool false]) ∨ ∃ d u b,r = d :: u ∧ mean d = some b ∧ meanA r = .tuple #[.int .u8 b.toNat,.bool true]) with ⟨h,hA⟩ | ⟨d,u,b,h1,h2,hA⟩
    ·have HF:=hide (hodd h)
     rw [hA] at HM
     clear hm hb hp hr hi hlp hT1 hg hc hlt hodd hnext h hA
     rw [HF.out]
     go_wp2_with fail
     refine (HC.out).mono ?_
     rintro e w1 ⟨rfl,b1⟩
     have B1:=hide (andthen HW.out b1)
     replace HB:=hide (HB.out.keep b1)
     clear b1
     go_wp2_with fail
     refine (HA.out _).mono ?_
     rintro e w2 ⟨rfl,b2⟩
     have B2:=hide (andthen B1.out b2)
     replace HB:=hide (HB.out.keep b2)
     clear b2
     go_wp2_with fail
     refine (ws_any _ E (str p) w2 HB.out HLN.out.1 HLN.out.2).mono ?_
     rintro e w3 ⟨rfl,h3,b3⟩
     have B3:=hide (B2.out.trans b3)
     clear h3 b3
     go_wp2_with fail
     refine (HM.out _).mono ?_
     rintro e w4 ⟨rfl,rfl⟩
     go_wp2_with fail
     go_ret2
     exact ⟨rfl,B3.out⟩
    ·have HN:=hide (hnext d u b h1 h2)
     subst h1
     rw [hA] at HM
     have HX : Hid ((str (d :: u)).extract 1 (str (d :: u)).size = str u):=hide (by rw [ext_end,str_list]; rfl)
     have hx1 : (1 : Int) ≤ ((str (d :: u)).size : Int):=by rw [str_size,List.length_cons]; omega
     have HMS : Hid (u.length < gk ∧ (((E ++ p) ++ [b]).length + u.length ≤ s.size) ∧ (E ++ p).length ≤ 1000000):=hide (by
      simp only [List.length_append,List.length_cons,List.length_nil] at hlp ⊢
      have:=HL.out
      omega)
     obtain ⟨X,hXe⟩ : ∃ X,(str (d :: u)).extract 1 (str (d :: u)).size = X:=⟨_,rfl⟩
     rw [hXe] at HX
     unfold Cuts at HC
     generalize str (d :: u) = R at *
     clear hm hb hp hr hi hlp hT1 hg hc hlt hodd hnext h2 hA
     go_wp2_with fail
     refine (HC.out).mono ?_
     rintro e w1 ⟨rfl,b1⟩
     have B1:=hide (andthen HW.out b1)
     replace HB:=hide (HB.out.keep b1)
     clear b1
     go_wp2_with fail
     refine (HA.out _).mono ?_
     rintro e w2 ⟨rfl,b2⟩
     have B2:=hide (andthen B1.out b2)
     replace HB:=hide (HB.out.keep b2)
     clear b2
     go_wp2_with fail
     refine (ws_any _ E (str p) w2 HB.out HLN.out.1 HLN.out.2).mono ?_
     rintro e w3 ⟨rfl,h3,b3⟩
     rw [str_list] at h3
     have H3:=hide h3
     have B3:=hide (B2.out.trans b3)
     clear h3 b3
     go_wp2_with fail
     refine (HM.out _).mono ?_
     rintro e w4 ⟨rfl,rfl⟩
     go_wp2_with fail
     refine (wb_any _ (E ++ p) b _ rfl w3 H3.out HMS.out.2.2).mono ?_
     rintro e w5 ⟨rfl,h5,b5⟩
     have H5:=hide h5
     have B5:=hide (B3.out.trans b5)
     clear h5 b5
     go_wp2_with fail
     go_roundg u.length
     case measure => exact HMS.out.1
     case rel => exact ⟨X,_,rfl,by rw [HX.out,str_size],H5,by rw [HX.out,str_list]; exact HN,hide (by rw [HX.out,str_size]; exact HMS.out.2.1),B5⟩

end Go.Proofs.YtgdjeddelcfgeaaGreatDoor

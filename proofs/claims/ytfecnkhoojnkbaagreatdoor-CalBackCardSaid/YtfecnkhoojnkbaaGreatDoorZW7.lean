/- FoA; FoB; FoC; FoE; FoD; FoF; FoG; FoH of the recipes, what is needed of them. -/
import Derived.Laws.RangeAny
import Derived.Laws.Runes
import Derived.Lib.DecodeN
import Derived.Lib.OthersKept
import Derived.Deep.LoopGhost
import Derived.Deep.QuietTactic
import Derived.BigQuiet
import Derived.IntWalk
import Derived.Lib.SplitLaws
import Derived.Laws.OwnMore
import Derived.Maps.AppendAt
import Derived.Test.YtfecnkhoojnkbaaGreatDoorZW3
import Derived.Test.YtfecnkhoojnkbaaGreatDoorZM2
import Derived.Test.YtfecnkhoojnkbaaGreatDoorZW4
import Derived.Test.YtfecnkhoojnkbaaGreatDoorZW5
set_option maxHeartbeats 8000000
set_option maxRecDepth 100000
namespace Go.Proofs.YtfecnkhoojnkbaaGreatDoor
open Go.RowKit Rul Rt Fo Go.Sort
def Bu (w : World) (b : Nat) (l : Tx) : Prop:=Lib.IsBuilder 66 5 b b (Lib.byteCells l) w
theorem bu_new (w : World) : Bu (w.alloc (.cells #[.pointer none,.slice none 0 0] 66)) w.heap.size []:=Lib.fresh_isBuilder _ _ w
theorem Bu.lt {w : World} {b : Nat} {l : Tx} (h : Bu w b l) : b < w.heap.size:=by
 rcases h with h | h
 ·exact Lib.BuilderAt.lt h
 ·exact Lib.BuilderAt.lt h
theorem ws_any (b : Nat) (l : Tx) (s : ByteArray) (w : World) (h : Bu w b l) (hl : l.length <= 1000000) (hs : s.size <= 1000000) :
  Calls Tryz.prog 28 #[.pointer (some ⟨b,0,none⟩),.string s] w fun e w' => e = .returned (.tuple #[.int .i64 s.size,.nilIface]) /\ Bu w' b (l ++ s.data.toList) /\ Below b w w':=by
 refine (Tryz.Builder_WriteString b b (Lib.byteCells l) s w h (by rw [Lib.byteCells_length]; omega) (Nat.le_of_lt h.lt)).mono ?_
 rintro e w' ⟨rfl,h1,hb⟩
 refine ⟨rfl,?_,hb⟩
 rw [Lib.strCells_eq,<- Lib.byteCells_append] at h1
 exact Or.inr h1
theorem wb_any (b : Nat) (l : Tx) (c : UInt8) (C : Int) (hC : C = (c.toNat : Int)) (w : World) (h : Bu w b l) (hl : l.length <= 1000000) :
  Calls Tryz.prog 98 #[.pointer (some ⟨b,0,none⟩),.int .u8 C] w fun e w' => e = .returned .nilIface /\ Bu w' b (l ++ [c]) /\ Below b w w':=by
 subst hC
 refine (Tryz.Builder_WriteByte b b (Lib.byteCells l) c.toNat w h (by rw [Lib.byteCells_length]; omega) (Nat.le_of_lt h.lt)).mono ?_
 rintro e w' ⟨rfl,h1,hb⟩
 refine ⟨rfl,?_,hb⟩
 have e1 : Lib.byteCells l ++ [.int .u8 (c.toNat : Int)] = Lib.byteCells (l ++ [c]):=by rw [Lib.byteCells_append]; rfl
 rw [e1] at h1
 exact Or.inr h1
theorem bstr_any (b : Nat) (l : Tx) (w : World) (h : Bu w b l) :
  Calls Tryz.prog 33 #[.pointer (some ⟨b,0,none⟩)] w fun e w' => e = .returned (.string (str l)) /\ Below b w w' :=
 Tryz.Builder_String_any b b l w h (Nat.le_of_lt h.lt)
theorem esc_mark (s : Tx) (c : UInt8) (h : c = 92 ∨ c = 59 ∨ c = 44) : escE (s ++ [c]) = (escE s ++ [92]) ++ [c]:=by
 rw [escE_snoc,escB,if_pos h,List.append_assoc]; rfl
theorem esc_end (s : Tx) : escE (s ++ [10]) = (escE s ++ [92]) ++ [110]:=by
 rw [escE_snoc,List.append_assoc]; rfl
theorem esc_plain (s : Tx) (c : UInt8) (h : ¬ (c = 92 ∨ c = 59 ∨ c = 44)) (h2 : c ≠ 10) : escE (s ++ [c]) = escE s ++ [c]:=by
 rw [escE_snoc,escB,if_neg h,if_neg h2]
theorem escape_any (s : ByteArray) (w : World) (hs : s.size <= 100000) :
  Calls Tryz.prog 61 #[.string s] w (Ans w (.string (str (escE s.data.toList)))):=by
 have HB0:=hide (bu_new w)
 have HW0 : Hid (Below w.heap.size w (w.alloc (.cells #[.pointer none,.slice none 0 0] 66))):=hide (more (start w) _)
 go_enter Tryz.func61,Tryz.ntmps61
 go_wp2_with fail
 go_loopw [8] (fun i wr => ∃ k : Nat,k <= s.size /\ i = .int .i64 k /\ Hid (Bu wr w.heap.size (escE (s.data.toList.take k))) /\ Hid (Below w.heap.size w wr)) (fun i _ => s.size - (intOf i).toNat)
 case atStart => exact ⟨0,Nat.zero_le _,rfl,HB0,HW0⟩
 case round =>
  obtain ⟨k,hk,rfl,HB,HW⟩:=hrel
  by_cases hlt : k < s.size
  ·have HT:=hide (take_next s k hlt)
   have HL : Hid ((escE (s.data.toList.take k)).length <= 300000):=hide (by have:=escE_len (s.data.toList.take k); rw [List.length_take] at this; omega)
   obtain ⟨c,hc⟩ : ∃ c,s[k] = c:=⟨_,rfl⟩
   rw [hc] at HT
   have hmk : (str [92]).size <= 1000000:=by rw [str_size]; decide
   by_cases h1 : c = 92 ∨ c = 59 ∨ c = 44
   ·have HN:=hide (esc_mark (s.data.toList.take k) c h1)
    rw [<- HT.out] at HN
    generalize escE (s.data.toList.take k) = E at *
    obtain ⟨q1,q2,q3⟩ : (((c.toNat : Int) == 92) = true ∨ (((c.toNat : Int) == 92) = false /\ ((c.toNat : Int) == 59) = true) ∨ (((c.toNat : Int) == 92) = false /\ ((c.toNat : Int) == 59) = false /\ ((c.toNat : Int) == 44) = true)) /\ True /\ True:=by
     refine ⟨?_,trivial,trivial⟩
     rcases h1 with rfl | rfl | rfl
     ·exact Or.inl (by decide)
     ·exact Or.inr (Or.inl ⟨by decide,by decide⟩)
     ·exact Or.inr (Or.inr ⟨by decide,by decide,by decide⟩)
    clear h1 q2 q3
    rcases q1 with q1 | ⟨q1,q2⟩ | ⟨q1,q2,q3⟩
    all_goals
     go_wp2_with fail
     refine (ws_any _ E (str [92]) wr HB.out (by have:=HL.out; omega) hmk).mono ?_
     rintro e w1 ⟨rfl,h1,b1⟩
     have H1:=hide h1
     have B1:=hide (HW.out.trans b1)
     clear h1 b1
     go_wp2_with fail
     refine (wb_any _ (E ++ [92]) c _ rfl w1 H1.out (by have:=HL.out; rw [List.length_append]; simp; omega)).mono ?_
     rintro e w2 ⟨rfl,h2,b2⟩
     have H2:=hide h2
     have B2:=hide (B1.out.trans b2)
     clear h2 b2
     go_wp2_with fail
     go_roundw
     case rel => exact ⟨k + 1,by omega,by go_num,by rw [HN.out]; exact H2,B2⟩
     case measure => simp [intOf]; omega
   ·have q1 : ((c.toNat : Int) == 92) = false:=by rw [show (92 : Int) = ((92 : UInt8).toNat : Int) from rfl,byte_eq]; simp; exact fun e => h1 (Or.inl e)
    have q2 : ((c.toNat : Int) == 59) = false:=by rw [show (59 : Int) = ((59 : UInt8).toNat : Int) from rfl,byte_eq]; simp; exact fun e => h1 (Or.inr (Or.inl e))
    have q3 : ((c.toNat : Int) == 44) = false:=by rw [show (44 : Int) = ((44 : UInt8).toNat : Int) from rfl,byte_eq]; simp; exact fun e => h1 (Or.inr (Or.inr e))
    by_cases h2 : c = 10
    ·subst h2
     have HN:=hide (esc_end (s.data.toList.take k))
     rw [<- HT.out] at HN
     generalize escE (s.data.toList.take k) = E at *
     clear h1
     go_wp2_with fail
     refine (ws_any _ E (str [92]) wr HB.out (by have:=HL.out; omega) hmk).mono ?_
     rintro e w1 ⟨rfl,h1,b1⟩
     have H1:=hide h1
     have B1:=hide (HW.out.trans b1)
     clear h1 b1
     go_wp2_with fail
     refine (wb_any _ (E ++ [92]) 110 _ rfl w1 H1.out (by have:=HL.out; rw [List.length_append]; simp; omega)).mono ?_
     rintro e w2 ⟨rfl,h2,b2⟩
     have H2:=hide h2
     have B2:=hide (B1.out.trans b2)
     clear h2 b2
     go_wp2_with fail
     go_roundw
     case rel => exact ⟨k + 1,by omega,by go_num,by rw [HN.out]; exact H2,B2⟩
     case measure => simp [intOf]; omega
    ·have q4 : ((c.toNat : Int) == 10) = false:=by rw [show (10 : Int) = ((10 : UInt8).toNat : Int) from rfl,byte_eq]; simp; exact h2
     have HN:=hide (esc_plain (s.data.toList.take k) c h1 h2)
     rw [<- HT.out] at HN
     generalize escE (s.data.toList.take k) = E at *
     clear h1 h2
     go_wp2_with fail
     refine (wb_any _ E c _ rfl wr HB.out (by have:=HL.out; omega)).mono ?_
     rintro e w2 ⟨rfl,h2,b2⟩
     have H2:=hide h2
     have B2:=hide (HW.out.trans b2)
     clear h2 b2
     go_wp2_with fail
     go_roundw
     case rel => exact ⟨k + 1,by omega,by go_num,by rw [HN.out]; exact H2,B2⟩
     case measure => simp [intOf]; omega
  ·obtain rfl : k = s.size:=by omega
   have HF : Hid (s.data.toList.take s.size = s.data.toList):=hide (List.take_of_length_le (by simp))
   rw [HF.out] at HB
   go_wp2_with fail
   refine (bstr_any _ _ wr HB.out).mono ?_
   rintro e w1 ⟨rfl,b1⟩
   have B1:=hide (HW.out.trans b1)
   clear b1
   go_wp2_with fail
   go_ret
   exact ⟨rfl,B1.out⟩
def meanA (t : Tx) : Value:=match t with
 | [] => .tuple #[.int .u8 0,.bool false]
 | d :: _ => match mean d with
  | none => .tuple #[.int .u8 0,.bool false]
  | some b => .tuple #[.int .u8 b.toNat,.bool true]
theorem meant_any (t : ByteArray) (w : World) : Calls Tryz.prog 246 #[.string t] w fun e w' => e = .returned (meanA t.data.toList) /\ w = w':=by
 cases hl : t.data.toList with
 | nil =>
  have hq : (t.toList == ([] : List UInt8)) = true:=by rw [ByteArray.toList_eq,hl]; rfl
  go_enter Tryz.func246,Tryz.ntmps246
  go_wp2_with fail
  go_ret2
  exact ⟨rfl,rfl⟩
 | cons d u =>
  have hz : 0 < t.size:=by rw [<- len_of,hl]; simp
  have hd : t[0] = d:=by
   have h1 : t.data.toList[0]'(by rw [hl]; simp) = d:=by simp [hl]
   exact h1
  have hq : (t.toList == ([] : List UInt8)) = false:=by rw [ByteArray.toList_eq,hl]; rfl
  have hz1 : (0 : Int) < (t.size : Int):=by omega
  clear hl
  by_cases h1 : d = 92 ∨ d = 59 ∨ d = 44
  ·have HA : Hid (meanA (d :: u) = .tuple #[.int .u8 d.toNat,.bool true]):=hide (by unfold meanA; simp only [mean,if_pos h1])
   have q1 : (((d.toNat : Int) == 92) = true ∨ (((d.toNat : Int) == 92) = false /\ ((d.toNat : Int) == 59) = true) ∨ (((d.toNat : Int) == 92) = false /\ ((d.toNat : Int) == 59) = false /\ ((d.toNat : Int) == 44) = true)):=by
    rcases h1 with rfl | rfl | rfl
    ·exact Or.inl (by decide)
    ·exact Or.inr (Or.inl ⟨by decide,by decide⟩)
    ·exact Or.inr (Or.inr ⟨by decide,by decide,by decide⟩)
   clear h1
   rw [HA.out]
   rcases q1 with q1 | ⟨q1,q2⟩ | ⟨q1,q2,q3⟩
   all_goals
    go_enter Tryz.func246,Tryz.ntmps246
    go_wp2_with fail
    go_ret2
    exact ⟨rfl,rfl⟩
  ·have q1 : ((d.toNat : Int) == 92) = false:=by rw [show (92 : Int) = ((92 : UInt8).toNat : Int) from rfl,byte_eq]; simp; exact fun e => h1 (Or.inl e)
   have q2 : ((d.toNat : Int) == 59) = false:=by rw [show (59 : Int) = ((59 : UInt8).toNat : Int) from rfl,byte_eq]; simp; exact fun e => h1 (Or.inr (Or.inl e))
   have q3 : ((d.toNat : Int) == 44) = false:=by rw [show (44 : Int) = ((44 : UInt8).toNat : Int) from rfl,byte_eq]; simp; exact fun e => h1 (Or.inr (Or.inr e))
   by_cases h2 : d = 110 ∨ d = 78
   ·have HA : Hid (meanA (d :: u) = .tuple #[.int .u8 10,.bool true]):=hide (by unfold meanA; simp only [mean,if_neg h1,if_pos h2]; rfl)
    have q4 : (((d.toNat : Int) == 110) = true ∨ (((d.toNat : Int) == 110) = false /\ ((d.toNat : Int) == 78) = true)):=by
     rcases h2 with rfl | rfl
     ·exact Or.inl (by decide)
     ·exact Or.inr ⟨by decide,by decide⟩
    clear h1 h2
    rw [HA.out]
    rcases q4 with q4 | ⟨q4,q5⟩
    all_goals
     go_enter Tryz.func246,Tryz.ntmps246
     go_wp2_with fail
     go_ret2
     exact ⟨rfl,rfl⟩
   ·have HA : Hid (meanA (d :: u) = .tuple #[.int .u8 0,.bool false]):=hide (by unfold meanA; simp only [mean,if_neg h1,if_neg h2])
    have q4 : ((d.toNat : Int) == 110) = false:=by rw [show (110 : Int) = ((110 : UInt8).toNat : Int) from rfl,byte_eq]; simp; exact fun e => h2 (Or.inl e)
    have q5 : ((d.toNat : Int) == 78) = false:=by rw [show (78 : Int) = ((78 : UInt8).toNat : Int) from rfl,byte_eq]; simp; exact fun e => h2 (Or.inr e)
    clear h1 h2
    rw [HA.out]
    go_enter Tryz.func246,Tryz.ntmps246
    go_wp2_with fail
    go_ret2
    exact ⟨rfl,rfl⟩
theorem byte_at (s : ByteArray) (j : Nat) (h : j < s.size) : s.get! j = s[j]:=by
 have:=get_at s j h
 simpa using this
theorem decode_width (s : ByteArray) (pos : Nat) (h : pos < s.size) (ha : 128 <= (s[pos]'h).toNat) :
  ∀ j,pos <= j -> j < pos + (Utf8.decode s pos).2 -> ∃ hj : j < s.size,128 <= (s[j]'hj).toNat:=by
 have key : ∀ j,pos <= j -> j < pos + (Utf8.decode s pos).2 -> j < s.size /\ 128 <= (s.get! j).toNat:=by
  intro j h1 h2
  have hb : 128 <= (s.get! pos).toNat:=by rw [byte_at s pos h]; exact ha
  rw [Lib.decode_at] at h2
  obtain ⟨d,rfl⟩ : ∃ d,j = pos + d:=⟨j - pos,by omega⟩
  generalize e0 : (s.get! pos).toNat = b0 at *
  generalize e1 : (s.get! (pos + 1)).toNat = b1 at *
  generalize e2 : (s.get! (pos + 2)).toNat = b2 at *
  generalize e3 : (s.get! (pos + 3)).toNat = b3 at *
  have hd : d < (Lib.decodeN (s.size - pos) b0 b1 b2 b3).2:=by omega
  clear h1 h2
  have done : (d = 0 ∨ (d = 1 /\ 1 < s.size - pos /\ 128 <= b1) ∨ (d = 2 /\ 2 < s.size - pos /\ 128 <= b2) ∨ (d = 3 /\ 3 < s.size - pos /\ 128 <= b3)):=by
   unfold Lib.decodeN at hd
   repeat' split at hd
   all_goals (simp only at hd; omega)
  rcases done with rfl | ⟨rfl,g1,g2⟩ | ⟨rfl,g1,g2⟩ | ⟨rfl,g1,g2⟩
  ·exact ⟨h,by rw [Nat.add_zero,e0]; exact hb⟩
  ·exact ⟨by omega,by rw [e1]; exact g2⟩
  ·exact ⟨by omega,by rw [e2]; exact g2⟩
  ·exact ⟨by omega,by rw [e3]; exact g2⟩
 intro j h1 h2
 obtain ⟨g1,g2⟩:=key j h1 h2
 exact ⟨g1,by rw [<- byte_at s j g1]; exact g2⟩
theorem indexByte_high (l : List UInt8) (c : UInt8) (h : c ∉ l) : ¬ (0 : Int) <= Lib.indexByte l c:=by
 have e:=Lib.contains_iff_indexByte l c
 have : l.contains c = false:=by simpa using h
 rw [this] at e
 exact of_decide_eq_false e.symm
theorem not_mem_high {s : ByteArray} (hs : ∀ b ∈ s.data.toList,b.toNat < 128) {c : UInt8} (hc : 128 <= c.toNat) {l : List UInt8} (hl : ∀ b ∈ l,b ∈ s.data.toList) : c ∉ l:=fun g => by
 have:=hs c (hl c g); omega
theorem mem_ext {s : ByteArray} {a : Nat} {b : UInt8} (h : b ∈ (s.extract a s.size).data.toList) : b ∈ s.data.toList:=by
 rw [ByteArray.data_extract,Array.toList_extract] at h
 exact List.mem_of_mem_drop (List.mem_of_mem_take h)
theorem rune_bad (s : ByteArray) (w : World) (hs : ∀ b ∈ s.data.toList,b.toNat < 128) :
  Calls Tryz.prog 288 #[.string s,.int .i32 65533] w (Ans w (.int .i64 (-1))):=by
 have HS:=hide hs
 clear hs
 go_enter Tryz.func288,Tryz.ntmps288
 go_wp2_with fail
 go_loopg [5,6] s.size (fun g _ _ wx => ∃ i : Nat,i + g = s.size /\ wx = w.iter s i)
 case atStart => exact ⟨0,by omega,rfl⟩
 case round =>
  obtain ⟨i,hig,rfl⟩:=hrel
  cases gk with
  | zero =>
   obtain rfl : i = s.size:=by omega
   have hnx:=fun ty => run_next_end (P:=Tryz.prog) w s s.size ty (by omega)
   go_wp2_with fail
   go_ret
   exact ⟨rfl,more (start w) _⟩
  | succ g =>
   have hi : i < s.size:=by omega
   have hx : (s[i]'hi).toNat < 128:=HS.out _ (Array.getElem_mem_toList (xs:=s.data) hi)
   have hnx:=fun ty => run_next_ascii (P:=Tryz.prog) w s i ty hi hx
   have hq : (((s[i]'hi).toNat : Int) == 65533) = false:=by rw [beq_eq_false_iff_ne]; omega
   go_wp2_with fail
   go_roundg g
   case measure => omega
   case rel => exact ⟨i + 1,by omega,rfl⟩
theorem rune_none (s : ByteArray) (r : Int) (w : World) (h1 : 128 <= r) (h3 : r ≠ 65533) (hv : Lib.validRune r = false) :
  Calls Tryz.prog 288 #[.string s,.int .i32 r] w (Ans w (.int .i64 (-1))):=by
 have q1 : decide ((0 : Int) <= r) = true:=decide_eq_true (by omega)
 have q2 : decide (r < 128) = false:=decide_eq_false (by omega)
 have q3 : (r == 65533) = false:=beq_eq_false_iff_ne.2 h3
 have HV:=hide hv
 clear h3 hv
 go_enter Tryz.func288,Tryz.ntmps288
 go_wp2_with fail
 refine (Tryz.utf8_ValidRune r w).mono ?_
 rintro e w' ⟨rfl,rfl⟩
 rw [HV.out]
 go_wp2_with fail
 go_ret
 exact ⟨rfl,start _⟩
theorem rune_more (s : ByteArray) (r : Int) (w : World) (hs : ∀ b ∈ s.data.toList,b.toNat < 128) (h1 : 128 <= r) (h3 : r ≠ 65533) (hv : Lib.validRune r = true) :
  Calls Tryz.prog 288 #[.string s,.int .i32 r] w (Ans w (.int .i64 (-1))):=by
 have q1 : decide ((0 : Int) <= r) = true:=decide_eq_true (by omega)
 have q2 : decide (r < 128) = false:=decide_eq_false (by omega)
 have q3 : (r == 65533) = false:=beq_eq_false_iff_ne.2 h3
 obtain ⟨z1,z2,z3⟩:=encode_facts r (by rw [validRune_eq]; exact hv) h1
 have HV:=hide hv
 have hcv : ∀ W : World,(convert 21 9 (.int .i32 r)).run Tryz.prog W = .ok (.string (Utf8.encode r)) W:=fun W => run_convert_int_string W _ _ _ _ (by kernel_rfl) Tryz.underlying9
 generalize Utf8.encode r = E at *
 obtain ⟨n,hn⟩ : ∃ n,E.size = n + 1:=⟨E.size - 1,by omega⟩
 have hb:=z3 (by omega)
 have hnz : (E.size : Int) = (n : Int) + 1:=by omega
 have hE : n < E.size:=by omega
 have HB : Hid (128 <= (E[n]'hE).toNat):=hide (by
  have e : E.size - 1 = n:=by omega
  simpa [e] using hb)
 have hn1 : 1 <= n:=by omega
 have hn2 : n <= 3:=by omega
 have hsub : (E.size : Int) - 1 = (n : Int):=by omega
 clear h3 hv z1 z2 z3 hb
 have HS:=hide hs
 clear hs
 go_enter Tryz.func288,Tryz.ntmps288
 go_wp2_with fail
 refine (Tryz.utf8_ValidRune r w).mono ?_
 rintro e w' ⟨rfl,rfl⟩
 rw [HV.out]
 go_wp2_with fail
 go_step3
 go_wp2_with fail
 refine wp_loop_rounds 1 ?_
 rw [rounds_succ]
 by_cases hlt : n < s.size
 ·have hi1 : (n : Int) < (s.size : Int):=by omega
  have hi0 : (0 : Int) <= (n : Int):=by omega
  have hEz : (n : Int) < (E.size : Int):=by omega
  have hsn : (s[n]'hlt).toNat < 128:=HS.out _ (Array.getElem_mem_toList (xs:=s.data) hlt)
  obtain ⟨c,hc⟩ : ∃ c,E[n]'hE = c:=⟨_,rfl⟩
  obtain ⟨d,hd⟩ : ∃ d,s[n]'hlt = d:=⟨_,rfl⟩
  have hc2 : 128 <= c.toNat:=by rw [<- hc]; exact HB.out
  have qn : ((d.toNat : Int) != (c.toNat : Int)) = true:=by rw [bne_iff_ne]; rw [hd] at hsn; omega
  obtain ⟨o,ho⟩ : ∃ o,Lib.indexByte (s.extract (n + 1) s.size).data.toList c = o:=⟨_,rfl⟩
  have ho0 : o < 0:=by
   have:=indexByte_high (s.extract (n + 1) s.size).data.toList c (not_mem_high HS.out hc2 fun b hb => mem_ext hb)
   rw [ho] at this; omega
  have HI : Hid (∀ W,Calls Tryz.prog 299 #[.string (s.extract (n + 1) s.size),.int .u8 (c.toNat : Int)] W fun e w' => e = .returned (.int .i64 o) /\ w' = W):=hide (fun W => by
   have h:=Tryz.strings_IndexByte (s.extract (n + 1) s.size) (c.toNat : Int) W
   have hb : ((c.toNat : Int)).toNat.toUInt8 = c:=by simp
   rw [hb,ho] at h
   exact h)
  have hsl0 : (n : Int) + 1 <= (s.size : Int):=by omega
  have hsl1 : (0 : Int) <= (n : Int) + 1:=by omega
  have hsl2 : ((n : Int) + 1).toNat = n + 1:=by omega
  have hsl3 : IntKind.i64.wrap ((n : Int) + 1) = (n : Int) + 1:=IntWalk.i64_in _ (by omega)
  clear hc2 ho hsn HB HS HV hn hnz hsub hn1 hn2 h1 q1 q2 q3
  go_wp2_with fail
  go_step3
  go_wp2_with fail
  go_quiet (fail)
  have HQ:=hide (below_drawn (start w') nq)
  generalize w'.drewN nq = wq at *
  go_wp2_with fail
  go_quiet ((go_at_call 299; exact Calls.quiet_of_same (HI.out _)))
  go_wp2_with fail
  go_ret
  exact ⟨rfl,below_drawn HQ.out _⟩
 ·have hi1 : ¬ (n : Int) < (s.size : Int):=by omega
  go_wp2_with fail
  go_ret
  exact ⟨rfl,start _⟩
def need : Tx:=[59,44,10]
theorem need_ascii : ∀ b ∈ (str need).data.toList,b.toNat < 128:=by rw [str_list]; decide
theorem need_bad (c : UInt8) : need.contains c = bad c:=by
 unfold need bad
 simp only [List.contains_cons,List.contains_nil,Bool.or_false,Bool.or_assoc]
theorem need_high (c : UInt8) (h : 128 <= c.toNat) : need.contains c = false:=by
 rw [need_bad]
 unfold bad
 simp only [Bool.or_eq_false_iff,beq_eq_false_iff_ne]
 refine ⟨⟨?_,?_⟩,?_⟩ <;> (intro e; subst e; revert h; decide)
theorem indexAny_need : ∀ l : Tx,decide (0 <= Lib.indexAny l need) = l.any bad
 | [] => rfl
 | b :: l => by
  have ih:=indexAny_need l
  have hg:=Lib.indexAny_ge need l
  rw [List.any_cons,<- need_bad b,<- ih]
  have e : Lib.indexAny (b :: l) need = if need.contains b then 0 else if Lib.indexAny l need == -1 then -1 else Lib.indexAny l need + 1:=rfl
  rw [e]
  cases need.contains b with
  | true => rfl
  | false =>
   simp only [Bool.false_or,Bool.false_eq_true,if_false]
   by_cases h : Lib.indexAny l need = -1
   ·rw [h]; rfl
   ·rw [if_neg (by rw [beq_iff_eq]; exact h),decide_eq_true (by omega),decide_eq_true (by omega)]
theorem noAny_width {s : ByteArray} {i d : Nat} (h : Lib.NoAny s.data.toList need i) (hd : ∀ j,i <= j -> j < i + d -> ∃ hj : j < s.size,128 <= (s[j]'hj).toNat) : Lib.NoAny s.data.toList need (i + d):=fun j b hj hb => by
 rcases Nat.lt_or_ge j i with g | g
 ·exact h j b g hb
 ·obtain ⟨hl,hx⟩:=hd j g hj
  rw [Lib.data_getElem? s j hl] at hb
  injection hb with hb
  rw [<- hb]; exact need_high _ hx
theorem rune_at (r : Int) (w : World) (h1 : 128 <= r) : Calls Tryz.prog 288 #[.string (str need),.int .i32 r] w (Ans w (.int .i64 (-1))):=by
 by_cases h3 : r = 65533
 ·subst h3; exact rune_bad _ w need_ascii
 ·cases hv : Lib.validRune r with
  | true => exact rune_more _ r w need_ascii h1 h3 hv
  | false => exact rune_none _ r w h1 h3 hv
def FindsB (w : World) (b : Bool) (e : Ending) (w' : World) : Prop:=∃ k : Int,e = .returned (.int .i64 k) /\ decide (0 <= k) = b /\ Below w.heap.size w w'
theorem indexAny_short (s : ByteArray) (w : World) (h8 : s.size <= 8) :
  Calls Tryz.prog 268 #[.string s,.string (str need)] w (FindsB w (s.data.toList.any bad)):=by
 have q0 : ((str need).toList == ([] : List UInt8)) = false:=by rw [str_tl]; rfl
 have q1 : (((str need).size : Int) == 1) = false:=by rw [str_size]; rfl
 have q2 : decide ((8 : Int) < (s.size : Int)) = false:=decide_eq_false (by omega)
 have HR:=hide rune_at
 have HA:=hide (fun (r : Int) (w : World) (h0 : 0 <= r) (h1 : r < 128) => Tryz.strings_IndexRune_ascii (str need) r w h0 h1)
 have HL : Hid ((str need).data.toList = need):=hide (str_list _)
 generalize str need = E at *
 rw [HL.out] at HA
 go_enter Tryz.func268,Tryz.ntmps268
 go_wp2_with fail
 refine (Tryz.strings_shouldUseASCIISet _ _).mono ?_
 rintro e w' ⟨rfl,rfl⟩
 rw [q2]
 go_wp2_with fail
 go_loopg [9,10] s.size (fun g _ _ wx => ∃ i : Nat,i + g = s.size /\ Hid (wx.heap[w'.heap.size]? = some (.stringIter s i)) /\ Hid (Lib.NoAny s.data.toList need i) /\ Hid (Below w'.heap.size w' wx))
 case atStart => exact ⟨0,by omega,hide (World.iter_heap _ _ _),hide (Lib.NoAny.zero _ _),hide (more (start w') _)⟩
 case round =>
  obtain ⟨i,hig,HI,HN,HB⟩:=hrel
  cases gk with
  | zero =>
   obtain rfl : i = s.size:=by omega
   have hnx : ∀ ty,(Instr.next (.pointer (some ⟨w'.heap.size,0,none⟩)) true ty).run Tryz.prog wr = _:=fun ty => Lib.run_next_end_at wr w'.heap.size s s.size ty HI.out (Nat.lt_irrefl _)
   have HF : Hid (s.data.toList.any bad = false):=hide (by
    have h1:=HN.out
    rw [Lib.size_eq] at h1
    rw [<- indexAny_need,Lib.indexAny_none h1]; rfl)
   go_wp2_with fail
   go_ret
   exact ⟨_,rfl,by rw [HF.out]; rfl,HB.out⟩
  | succ g =>
   have hi : i < s.size:=by omega
   obtain ⟨x,hx⟩ : ∃ x : UInt8,s[i]'hi = x:=⟨_,rfl⟩
   have HX : Hid (s.data.toList[i]? = some x):=hide (by rw [<- hx]; exact Lib.data_getElem? s i hi)
   by_cases ha : x.toNat < 128
   ·have hnx : ∀ ty,(Instr.next (.pointer (some ⟨w'.heap.size,0,none⟩)) true ty).run Tryz.prog wr = _:=fun ty => Lib.run_next_ascii_at wr w'.heap.size s i ty HI.out hi (by rw [hx]; exact ha)
    rw [hx] at hnx
    have HI2:=hide (Lib.iterAt_heap wr w'.heap.size s i (i + 1) HI.out)
    have HB2:=hide (Lib.below_iterAt HB.out (Nat.le_refl _) s (i + 1))
    have HC:=hide (HA.out (x.toNat : Int) (wr.iterAt w'.heap.size s (i + 1)) (by omega) (by omega))
    have hback : ((x.toNat : Int)).toNat.toUInt8 = x:=by simp
    rw [hback] at HC
    obtain ⟨o,ho⟩ : ∃ o,Lib.indexByte need x = o:=⟨_,rfl⟩
    have hcon:=Lib.contains_iff_indexByte need x
    rw [ho] at HC hcon
    generalize wr.iterAt w'.heap.size s (i + 1) = w5 at *
    cases hin : need.contains x with
    | false =>
     rw [hin] at hcon
     have hlt : decide ((0 : Int) <= o) = false:=hcon.symm
     have HN2:=hide (HN.out.succ HX.out hin)
     clear hcon hin hx hback ho
     go_wp2_with fail
     refine (HC.out).mono ?_
     rintro e w6 ⟨rfl,rfl⟩
     go_wp2_with fail
     go_roundg g
     case measure => omega
     case rel => exact ⟨i + 1,by omega,HI2,HN2,HB2⟩
    | true =>
     rw [hin] at hcon
     have hlt : decide ((0 : Int) <= o) = true:=hcon.symm
     have HF : Hid (s.data.toList.any bad = true):=hide (by
      rw [<- indexAny_need,Lib.indexAny_hit HN.out HX.out hin]; exact decide_eq_true (by omega))
     clear hcon hin hx hback ho
     go_wp2_with fail
     refine (HC.out).mono ?_
     rintro e w6 ⟨rfl,rfl⟩
     go_wp2_with fail
     go_ret
     exact ⟨_,rfl,by rw [HF.out]; exact decide_eq_true (by omega),HB2.out⟩
   ·have hnx : ∀ ty,(Instr.next (.pointer (some ⟨w'.heap.size,0,none⟩)) true ty).run Tryz.prog wr = _:=fun ty => Lib.run_next_any_at wr w'.heap.size s i ty HI.out hi
    have hh : 128 <= (s[i]'hi).toNat:=by rw [hx]; omega
    obtain ⟨g1,g2⟩:=decode_high s i hi hh
    have hd:=decode_width s i hi hh
    obtain ⟨r,hr⟩ : ∃ r,(Utf8.decode s i).1 = r:=⟨_,rfl⟩
    obtain ⟨d,hdd⟩ : ∃ d,(Utf8.decode s i).2 = d:=⟨_,rfl⟩
    rw [hr,hdd] at hnx
    rw [hr] at g1
    rw [hdd] at g2 hd
    have hid : i + d <= s.size:=by obtain ⟨h,_⟩:=hd (i + d - 1) (by omega) (by omega); omega
    have HN2:=hide (noAny_width HN.out hd)
    have HI2:=hide (Lib.iterAt_heap wr w'.heap.size s i (i + d) HI.out)
    have HB2:=hide (Lib.below_iterAt HB.out (Nat.le_refl _) s (i + d))
    have HC:=hide (HR.out (r : Int) (wr.iterAt w'.heap.size s (i + d)) (by omega))
    generalize wr.iterAt w'.heap.size s (i + d) = w5 at *
    clear hr hdd hd hx ha hh HX HI HB HN
    go_wp2_with fail
    refine (HC.out).mono ?_
    rintro e w6 ⟨rfl,hb6⟩
    have hk5 : w'.heap.size < w5.heap.size:=(Array.getElem?_eq_some_iff.1 HI2.out).1
    have HI3:=hide ((hb6.block _ hk5).trans HI2.out)
    have HB3:=hide (andthen HB2.out hb6)
    clear hb6
    go_wp2_with fail
    go_roundg (s.size - (i + d))
    case measure => omega
    case rel => exact ⟨i + d,by omega,HI3,HN2,HB3⟩
theorem indexAny_any (s : ByteArray) (w : World) (hs : s.size <= 1000000) :
  Calls Tryz.prog 268 #[.string s,.string (str need)] w (FindsB w (s.data.toList.any bad)):=by
 by_cases h8 : s.size <= 8
 ·exact indexAny_short s w h8
 ·refine (Tryz.strings_IndexAny_long (fun w => by kernel_rfl) s (str need) w (by rw [str_size]; decide) (by omega) (by omega) (by rw [str_size]; decide) (fun j b hb => need_ascii b (List.mem_of_getElem? hb))).mono ?_
  rintro e w' ⟨rfl,rfl⟩
  refine ⟨_,rfl,by rw [str_list]; exact indexAny_need _,more (more (start w) _) _⟩
theorem containsAny_any (s : ByteArray) (w : World) (hs : s.size <= 1000000) :
  Calls Tryz.prog 245 #[.string s,.string (str need)] w (Ans w (.bool (s.data.toList.any bad))):=by
 have HA:=hide (indexAny_any s w hs)
 clear hs
 generalize str need = E at *
 go_enter Tryz.func245,Tryz.ntmps245
 go_wp2_with fail
 refine (HA.out).mono ?_
 rintro e w1 ⟨k,rfl,hk,hb⟩
 have HK:=hide hk
 clear hk
 go_wp2_with fail
 go_ret
 exact ⟨ret_bool HK.out,hb⟩
theorem pc_step {S : Tx} {done : List Tx} {t : Tx} {r : Nat} (h : pc 75 S = done ++ pc r t) (hr : r < t.length) (h0 : r ≠ 0) : pc 75 S = (done ++ [t.take r]) ++ pc 74 (t.drop r):=by
 rw [h,pc_more r t hr h0]; simp
theorem pc_stop {S : Tx} {done : List Tx} {t : Tx} {r : Nat} (h : pc 75 S = done ++ pc r t) (hr : t.length <= r) : pc 75 S = done ++ [t]:=by
 rw [h,pc_all r t hr]
theorem pieces_any (s : ByteArray) (w : World) (hs : s.size <= 100000) :
  Calls Tryz.prog 84 #[.string s] w (GivesS w (pc 75 s.data.toList)):=by
 go_enter Tryz.func84,Tryz.ntmps84
 go_wp2_with fail
 go_loopg [0,3,4] s.size (fun g S v r wr => ∃ (T : ByteArray) (room : Nat) (done : List Tx),S = .string T /\ r = .int .i64 room /\ T.size = g /\ OwnS wr w.heap.size v done /\ Hid (pc 75 s.data.toList = done ++ pc room T.data.toList) /\ Hid ((room = 75 ∨ room = 74) /\ done.length + T.size <= s.size) /\ Below w.heap.size w wr)
 case atStart => exact ⟨s,75,[],rfl,rfl,rfl,ownS_nil _ _,hide rfl,hide ⟨Or.inl rfl,by simp⟩,start _⟩
 case round =>
  obtain ⟨T,room,done,rfl,rfl,hg,hown,HP,HR,hbw⟩:=hrel
  have HO:=hide hown
  have HBR:=hide hbw
  clear hown hbw
  have hz:=HBR.out.size
  have hln : done.length <= 1000000:=by have:=HR.out.2; omega
  by_cases hlt : room < T.size
  ·have hlt1 : (room : Int) < (T.size : Int):=by omega
   have hlt2 : (room : Int) <= (T.size : Int):=by omega
   have hr0 : (0 : Int) <= (room : Int):=by omega
   have HN:=hide (pc_step HP.out (by rw [len_of]; exact hlt) (by have:=HR.out.1; omega))
   have HE:=hide (ext_str T 0 room)
   have HE2:=hide (ext_end T room)
   have hsz2 : (T.extract room T.size).size < gk /\ done.length + 1 + (T.extract room T.size).size <= s.size:=by
    rw [ByteArray.size_extract]; have:=HR.out; omega
   have HS2:=hide hsz2
   obtain ⟨X,hX⟩ : ∃ X,T.extract 0 room = X:=⟨_,rfl⟩
   have HX : Hid (X = str (T.data.toList.take room)):=hide (hX ▸ HE.out.trans (by rw [List.drop_zero]))
   obtain ⟨Y,hY⟩ : ∃ Y,T.extract room T.size = Y:=⟨_,rfl⟩
   have HY : Hid (Y.data.toList = T.data.toList.drop room):=hide (by rw [<- hY,HE2.out,str_list])
   rw [hY] at HS2
   have hown:=HO.out
   clear hlt hsz2 HE HE2 hg
   go_wp2_with (at_builtin; rw [HX.out]; refine wp_oneS (l:=done) (p:=T.data.toList.take room) rfl _ _ rfl rfl rfl rfl hown hz hln ?_; intro v3 w3 hown3 hb3)
   have HO3:=hide hown3
   have HB3:=hide (HBR.out.trans hb3)
   clear hown hown3 hb3 hz hln
   go_wp2_with fail
   go_roundg Y.size
   case measure => exact HS2.out.1
   case rel => exact ⟨Y,74,_,rfl,rfl,rfl,HO3.out,by rw [HY.out]; exact HN,hide ⟨Or.inr rfl,by rw [List.length_append]; have:=HS2.out.2; simp; omega⟩,HB3.out⟩
  ·have hlt1 : ¬ (room : Int) < (T.size : Int):=by omega
   have HF:=hide (pc_stop HP.out (by rw [len_of]; omega))
   have HX:=hide (str_of T)
   have hown:=HO.out
   clear hlt hg
   go_wp2_with (at_builtin; rw [HX.out]; refine wp_oneS (l:=done) (p:=T.data.toList) rfl _ _ rfl rfl rfl rfl hown hz hln ?_; intro v3 w3 hown3 hb3)
   have HO3:=hide hown3
   have HB3:=hide (HBR.out.trans hb3)
   clear hown hown3 hb3 hz hln
   go_wp2_with fail
   go_ret
   exact ⟨_,rfl,by rw [HF.out]; exact HO3.out,HB3.out⟩
theorem joinS_all (sep : Tx) (s : ByteArray) (hs : s = str sep) (A : Option Addr) (n cap : Nat) (l : List Tx) (w : World) (hl : RowS w A l) (hn : n = l.length) (hcap : l.length <= cap) (h0 : l ≠ []) (hsz : l.length <= 1000000) (hJ : (Lib.join l sep).length <= 100000000) :
  Calls Tryz.prog 97 #[.slice A n cap,.string s] w (Ans w (.string (str (Lib.join l sep)))):=by
 subst hn hs
 obtain ⟨b,o,rfl,hb,hc⟩:=hl h0
 have em : (l.map str).map (fun x : ByteArray => x.data.toList) = l:=by
  rw [List.map_map]
  have : (fun x : ByteArray => x.data.toList) ∘ str = id:=by funext x; simp [str]
  rw [this,List.map_id]
 have ej : Lib.join ((l.map str).map (fun x : ByteArray => x.data.toList)) (str sep).data.toList = Lib.join l sep:=by rw [em,str_list]
 have:=Tryz.strings_Join b o cap (l.map str) (str sep) w (fun j x hx => by
  rw [List.getElem?_map,Option.map_eq_some_iff] at hx
  obtain ⟨t,ht,rfl⟩:=hx
  obtain ⟨hj,e⟩:=List.getElem?_eq_some_iff.1 ht
  rw [hc j hj,e]) hb (by rw [List.length_map]; omega) (by rw [List.length_map]; exact hcap) (by rw [ej]; omega)
 rw [List.length_map,ej] at this
 exact this
theorem folded_any (A : Option Addr) (n cap : Nat) (l : List Tx) (w : World) (hl : RowS w A l) (hn : n = l.length) (hcap : l.length <= cap) (h0 : l ≠ []) (hsz : l.length <= 1000000) (hJ : (Lib.join l sepE).length <= 100000000) :
  Calls Tryz.prog 83 #[.slice A n cap] w (Ans w (.string (str (Lib.join l sepE)))):=by
 have HJ:=hide (joinS_all sepE (str sepE) rfl A n cap l w hl hn hcap h0 hsz hJ)
 clear hl hn hcap h0 hsz hJ
 go_enter Tryz.func83,Tryz.ntmps83
 go_wp2_with fail
 refine (HJ.out).mono ?_
 rintro e w1 ⟨rfl,hb⟩
 go_wp2_with fail
 go_ret
 exact ⟨rfl,hb⟩
theorem fold_any (s : ByteArray) (w : World) (hs : s.size <= 100000) :
  Calls Tryz.prog 55 #[.string s] w (Ans w (.string (str (foldE s.data.toList)))):=by
 have hl : (pc 75 s.data.toList).length <= 1000000:=by have:=pc_len _ 75 s.data.toList (Nat.le_refl _); rw [len_of] at this; omega
 have h0 : pc 75 s.data.toList ≠ []:=by rw [pc]; split <;> simp
 have hJ : (Lib.join (pc 75 s.data.toList) sepE).length <= 100000000:=by rw [join_pc,foldE_len,len_of]; omega
 have HJ:=hide (join_pc s.data.toList)
 have HP:=hide (pieces_any s w hs)
 generalize pc 75 s.data.toList = ps at *
 have HL:=hide hl
 have H0:=hide h0
 have HN:=hide hJ
 clear hl h0 hJ hs
 rw [<- HJ.out]
 go_enter Tryz.func55,Tryz.ntmps55
 go_wp2_with fail
 refine (HP.out).mono ?_
 rintro e w1 ⟨v,rfl,hown,hb1⟩
 obtain ⟨A,cap,rfl,hrow,hcap⟩:=OwnS.row hown
 have HB1:=hide hb1
 have HF:=hide (folded_any A _ cap ps w1 hrow rfl hcap H0.out HL.out HN.out)
 clear hb1 hown hrow hcap
 go_wp2_with fail
 refine (HF.out).mono ?_
 rintro e w2 ⟨rfl,hb2⟩
 go_wp2_with fail
 go_ret
 exact ⟨rfl,andthen HB1.out hb2⟩
def PieS (w : World) (l : List Tx) (e : Ending) (w' : World) : Prop:=∃ A cap,e = .returned (.slice A l.length cap) /\ RowS w' A l /\ l.length <= cap /\ Below w.heap.size w w'
theorem split_all (t : ByteArray) (w : World) (he : Env w) (ht : t.size <= 1000000) :
  Calls Tryz.prog 73 #[.string t,.string (str crlf)] w (PieS w (Lib.split t.data.toList crlf)):=by
 obtain ⟨m,hm⟩:=he.len
 refine (Tryz.strings_Split t (str crlf) m w (by omega) hm (by rw [str_size]; decide)).mono ?_
 rintro e w' ⟨rfl,rfl⟩
 have ed:=Lib.splitB_data (str crlf) 0 (Lib.countB t (str crlf)) t
 have es : Lib.split t.data.toList crlf = Lib.splitK crlf 0 (Lib.countB t (str crlf)) t.data.toList:=by
  unfold Lib.split Lib.countB; rw [str_list]
 have el:=Lib.splitB_all (str crlf) (by rw [str_size]; decide) 0 _ t rfl
 rw [str_list,<- es] at ed
 generalize hB : Lib.splitB (str crlf) 0 (Lib.countB t (str crlf)) t = B at *
 have hl : B.length = (Lib.split t.data.toList crlf).length:=by rw [<- ed,List.length_map]
 rw [el] at hl
 refine ⟨some ⟨w.heap.size,0,none⟩,_,by rw [hl],fun _ => ⟨w.heap.size,0,rfl,by simp,fun i hi => ?_⟩,by omega,more (start _) _⟩
 have hi2 : i < B.length:=by omega
 have hx : (Lib.split t.data.toList crlf)[i] = B[i].data.toList:=by
  have : (B.map (·.data.toList))[i]'(by rw [List.length_map]; exact hi2) = B[i].data.toList:=List.getElem_map _
  rw [<- this]
  congr 1
  exact ed.symm
 rw [hx,data_str,Nat.zero_add,World.cell?_alloc_at _ _ _ _ rfl]
 simp only [List.getElem?_toArray]
 rw [List.getElem?_map,List.getElem?_eq_getElem hi2]; rfl
theorem split_len (s : Tx) : (Lib.split s crlf).length <= s.length + 1:=by
 have h1:=Lib.countB_le (str crlf) (by rw [str_size]; decide) _ (str s) (Nat.le_refl _)
 unfold Lib.countB at h1
 rw [str_list,str_list,str_size] at h1
 have h2:=splitK_count crlf (Lib.count s crlf) s
 unfold Lib.split
 omega
theorem RowS.front {w : World} {A : Option Addr} {l k : List Tx} (h : RowS w A (l ++ k)) : RowS w A l:=fun hn => by
 obtain ⟨b,off,e,hl,hc⟩:=h (by simp [hn])
 refine ⟨b,off,e,hl,fun i hi => ?_⟩
 have:=hc i (by rw [List.length_append]; omega)
 rw [List.getElem_append_left hi] at this
 exact this
theorem splitEnds_any (t : ByteArray) (w : World) (he : Env w) (ht : t.size <= 1000000) :
  Calls Tryz.prog 47 #[.string t] w (PieS w (fin (Lib.split t.data.toList crlf))):=by
 have HC:=hide (split_all t w he ht)
 have hne:=split_ne t.data.toList
 have hsl:=split_len t.data.toList
 rw [len_of] at hsl
 generalize Lib.split t.data.toList crlf = ps at *
 obtain ⟨l,x,rfl⟩ : ∃ l x,ps = l ++ [x]:=⟨ps.dropLast,ps.getLast hne,(List.dropLast_concat_getLast hne).symm⟩
 obtain ⟨m,hm⟩ : ∃ m,l.length = m:=⟨_,rfl⟩
 rw [List.length_append,hm,List.length_singleton] at hsl
 have hi5 : (m : Int) <= 1000000:=by omega
 have HF1 : Hid (x = [] -> fin (l ++ [x]) = l):=hide (fun h => by subst h; exact fin_snoc l)
 have HF2 : Hid (x ≠ [] -> fin (l ++ [x]) = l ++ [x]):=hide (fun h => fin_keep l x h)
 generalize hF : fin (l ++ [x]) = F at *
 have HM : Hid (l.length = m):=hide hm
 clear hm hne hF he ht hsl
 go_enter Tryz.func47,Tryz.ntmps47
 go_wp2_with fail
 refine (HC.out).mono ?_
 rintro e w1 ⟨A,cap,rfl,hrow,hcap,hb1⟩
 have hlen : (l ++ [x]).length = m + 1:=by rw [List.length_append,HM.out]; rfl
 rw [hlen] at hcap ⊢
 obtain ⟨b,off,rfl,hbl,hc⟩:=hrow (by simp)
 have p1 : w1.cell? ⟨b,off + m,none⟩ = some (.string (str x)):=by
  rw [hc m (by omega)]
  congr 3
  have e:=HM.out
  subst e
  simp
 have HR:=hide hrow
 have HB:=hide hb1
 have HLN:=hide hlen
 have hi1 : (m : Int) + 1 - 1 = (m : Int):=by omega
 have hi2 : (m : Int) < (m : Int) + 1:=by omega
 have hi3 : (0 : Int) <= (m : Int):=by omega
 have hi4 : (m : Int) <= (cap : Int):=by omega
 have HCAP:=hide hcap
 clear hrow hb1 hc hlen hcap
 have q1:=str_tl x
 cases x with
 | nil =>
  have HF:=hide (HF1.out rfl)
  have q2 : ((str ([] : Tx)).toList == ([] : List UInt8)) = true:=by rw [q1]; rfl
  go_wp2_with fail
  go_ret
  refine ⟨_,cap,?_,by rw [HF.out]; exact HR.out.front,by rw [HF.out]; have:=HCAP.out; have:=HM.out; omega,HB.out⟩
  rw [HF.out,HM.out]; rfl
 | cons c u =>
  have HF:=hide (HF2.out (by simp))
  have q2 : ((str (c :: u)).toList == ([] : List UInt8)) = false:=by rw [q1]; rfl
  go_wp2_with fail
  go_ret
  refine ⟨_,cap,?_,by rw [HF.out]; exact HR.out,by rw [HF.out,HLN.out]; exact HCAP.out,HB.out⟩
  rw [HF.out,HLN.out]; rfl
theorem tail_end {T : Tx} (h : goesOn T = true) : T.drop 1 = T.tail /\ 0 < T.length:=by
 have e:=goesOn_form h
 refine ⟨List.drop_one,?_⟩
 rw [e]; simp
theorem tls_take (l : List Tx) (k : Nat) (h : k < l.length) : tls (l.take (k + 1)) = tls (l.take k) ++ l[k].tail:=by
 rw [List.take_succ_eq_append_getElem h,tls_snoc]
theorem unfolded_any (f : Tx) (A : Option Addr) (n c : Nat) (l : List Tx) (w : World) (hl : RowS w A l) (hn : n = l.length) (hg : ∀ i (h : i < l.length),goesOn l[i] = true) (hsz : l.length <= 1000000) (hf : f.length + l.flatten.length <= 500000) :
  Calls Tryz.prog 72 #[.string (str f),.slice A n c] w (Ans w (.string (str (f ++ tls l)))):=by
 subst hn
 have HR:=hide hl
 have HG:=hide hg
 have HF:=hide hf
 have HB0:=hide (bu_new w)
 have HW0 : Hid (Below w.heap.size w (w.alloc (.cells #[.pointer none,.slice none 0 0] 66))):=hide (more (start w) _)
 clear hl hg hf
 go_enter Tryz.func72,Tryz.ntmps72
 go_wp2_with fail
 refine (ws_any _ [] (str f) _ HB0.out (by simp) (by rw [str_size]; have:=HF.out; omega)).mono ?_
 rintro e w1 ⟨rfl,h1,b1⟩
 rw [str_list,List.nil_append] at h1
 have H1:=hide h1
 have B1:=hide (HW0.out.trans b1)
 clear h1 b1
 go_wp2_with fail
 go_loopw [7,12] (fun _ i wr => ∃ k : Nat,k <= l.length /\ i = .int .i64 k /\ Hid (Bu wr w.heap.size (f ++ tls (l.take k))) /\ Hid (Below w.heap.size w wr)) (fun _ i _ => l.length - (intOf i).toNat)
 case atStart => exact ⟨0,Nat.zero_le _,rfl,hide (by rw [List.take_zero,tls_nil,List.append_nil]; exact H1.out),B1⟩
 case round =>
  obtain ⟨k,hk,rfl,HB,HW⟩:=hrel
  by_cases hlt : k < l.length
  ·obtain ⟨b1,o1,rfl,hb1,hc1⟩:=HR.out (by intro h0; rw [h0] at hlt; exact absurd hlt (Nat.not_lt_zero _))
   obtain ⟨T,hm⟩ : ∃ T,l[k] = T:=⟨_,rfl⟩
   obtain ⟨hT,hT0⟩:=tail_end (hm ▸ HG.out k hlt)
   have p1 : wr.cell? ⟨b1,o1 + k,none⟩ = some (.string (str T)):=by rw [<- hm]; exact (HW.out.cell (p:=⟨b1,_,none⟩) hb1).trans (hc1 k hlt)
   have hi0 : (0 : Int) <= (k : Int):=by omega
   have hi1 : (k : Int) < (l.length : Int):=by omega
   have hi2 : (1 : Int) <= ((str T).size : Int):=by rw [str_size]; omega
   have HE : Hid ((str T).extract 1 (str T).size = str T.tail):=hide (by rw [ext_end,str_list,hT])
   have HN:=hide (tls_take l k hlt)
   rw [hm] at HN
   have hTl : T.length <= l.flatten.length:=flat_at l T (by rw [<- hm]; exact List.getElem_mem hlt)
   have hEl : (f ++ tls (l.take k)).length <= 1000000:=by
    have h1:=tls_len (l.take k)
    have h2:=flat_take l k
    have h3:=HF.out
    rw [List.length_append]; omega
   obtain ⟨X,hX⟩ : ∃ X,(str T).extract 1 (str T).size = X:=⟨_,rfl⟩
   rw [hX] at HE
   have hXs : X.size <= 1000000:=by rw [HE.out,str_size,List.length_tail]; have:=HF.out; omega
   have HXs:=hide (And.intro hEl hXs)
   clear hc1 hm hT hT0 hTl hEl hXs
   go_wp2_with fail
   refine (ws_any _ _ X wr HB.out HXs.out.1 HXs.out.2).mono ?_
   rintro e w2 ⟨rfl,h2,b2⟩
   rw [HE.out,str_list,List.append_assoc,<- HN.out] at h2
   have H2:=hide h2
   have B2:=hide (HW.out.trans b2)
   clear h2 b2 p1
   go_wp2_with fail
   go_roundw
   case rel => exact ⟨k + 1,by omega,by go_num,H2,B2⟩
   case measure => simp [intOf]; omega
  ·obtain rfl : k = l.length:=by omega
   rw [List.take_length] at HB
   go_wp2_with fail
   refine (bstr_any _ _ wr HB.out).mono ?_
   rintro e w1 ⟨rfl,b1⟩
   have B1:=hide (HW.out.trans b1)
   clear b1
   go_wp2_with fail
   go_ret
   exact ⟨rfl,B1.out⟩
theorem Bu.keep {w w' : World} {b : Nat} {l : Tx} (h : Bu w b l) (hb : Below w.heap.size w w') : Bu w' b l:=by
 have hlt:=h.lt
 rcases h with h | h
 ·obtain ⟨h1,v,h2,h3,h4⟩:=h
  exact Or.inl ⟨h1,v,(hb.block _ hlt).trans h2,World.ownsRow.kept (row:=none) h3 ⟨hb.os,hb.tape,hb.output,hb.size,fun i hi _ => hb.block i hi⟩ (by cases v.ownBlock <;> simp),h4⟩
 ·obtain ⟨h1,v,h2,h3,h4⟩:=h
  exact Or.inr ⟨h1,v,(hb.block _ hlt).trans h2,World.ownsRow.kept (row:=none) h3 ⟨hb.os,hb.tape,hb.output,hb.size,fun i hi _ => hb.block i hi⟩ (by cases v.ownBlock <;> simp),h4⟩
def unA : Option Tx -> Value
 | none => .tuple #[.string (str []),.int .i64 14]
 | some t => .tuple #[.string (str t),.int .i64 0]
def Cuts (w : World) (p r : Tx) (f : Bool) (e : Ending) (w' : World) : Prop:=e = .returned (.tuple #[.string (str p),.string (str r),.bool f]) /\ Below w.heap.size w w'
theorem cut_none (T : ByteArray) (w : World) (he : Env w) (ht : T.size <= 1000000) (h : Lib.index T.data.toList [92] = -1) :
  Calls Tryz.prog 106 #[.string T,.string (str [92])] w (Cuts w T.data.toList [] false):=by
 obtain ⟨m,hm⟩:=he.len
 refine (Tryz.strings_Cut T (str [92]) m w (by omega) hm).mono ?_
 rintro e w' ⟨rfl,n,rfl⟩
 have e2 : Lib.cut T.data.toList (str [92]).data.toList = (T.data.toList,[],false):=by
  rw [str_list]; unfold Lib.cut; rw [h,if_neg (by decide)]
 rw [e2]
 exact ⟨rfl,below_drawn (start _) n⟩
theorem cut_some (T : ByteArray) (w : World) (he : Env w) (ht : T.size <= 1000000) (i : Nat) (h : Lib.index T.data.toList [92] = (i : Int)) :
  Calls Tryz.prog 106 #[.string T,.string (str [92])] w (Cuts w (T.data.toList.take i) (T.data.toList.drop (i + 1)) true):=by
 obtain ⟨m,hm⟩:=he.len
 refine (Tryz.strings_Cut T (str [92]) m w (by omega) hm).mono ?_
 rintro e w' ⟨rfl,n,rfl⟩
 have e2 : Lib.cut T.data.toList (str [92]).data.toList = (T.data.toList.take i,T.data.toList.drop (i + 1),true):=by
  rw [str_list]; unfold Lib.cut; rw [h,if_pos (by omega)]; rfl
 rw [e2]
 exact ⟨rfl,below_drawn (start _) n⟩
theorem any_at (p : Tx) (b : Bool) (w : World) (h : p.any bad = b) (hp : p.length <= 1000000) : Calls Tryz.prog 245 #[.string (str p),.string (str need)] w (Ans w (.bool b)):=by
 have:=containsAny_any (str p) w (by rw [str_size]; exact hp)
 rw [str_list,h] at this
 exact this
theorem meant_at (r : Tx) (w : World) : Calls Tryz.prog 246 #[.string (str r)] w fun e w' => e = .returned (meanA r) /\ w = w':=by
 have:=meant_any (str r) w
 rw [str_list] at this
 exact this
theorem unescape_any (s : ByteArray) (w : World) (he : Env w) (hs : s.size <= 100000) :
  Calls Tryz.prog 233 #[.string s] w (Ans w (unA (unE s.data.toList))):=by
 have HB0:=hide (bu_new w)
 have HW0 : Hid (Below w.heap.size w (w.alloc (.cells #[.pointer none,.slice none 0 0] 66))):=hide (more (start w) _)
 have HEN:=hide he
 clear he
 go_enter Tryz.func233,Tryz.ntmps233
 go_wp2_with fail
 go_loopg [0,5,6,7,8,9] s.size (fun g S _ _ _ _ _ wr => ∃ (T : ByteArray) (E : Tx),S = .string T /\ T.size = g /\ Hid (Bu wr w.heap.size E) /\ Hid (unE s.data.toList = (unE T.data.toList).map (E ++ ·)) /\ Hid (E.length + T.size <= s.size) /\ Hid (Below w.heap.size w wr))
 case atStart => exact ⟨s,[],rfl,rfl,HB0,hide (by rw [map_nil]),hide (by simp),HW0⟩
 case round =>
  obtain ⟨T,E,rfl,hg,HB,HU,HL,HW⟩:=hrel
  have hT1 : T.size <= 1000000:=by have:=HL.out; omega
  have HEV:=hide (HEN.out.below HW.out (Nat.le_refl _))
  rcases index_mark T.data.toList with ⟨hi,hm⟩ | ⟨i,hi,hlt,hm,hc⟩
  ·have HC:=hide (cut_none T wr HEV.out hT1 hi)
   obtain ⟨t,ht⟩ : ∃ t,T.data.toList = t:=⟨_,rfl⟩
   have htl : t.length = T.size:=by rw [<- ht,len_of]
   rw [ht] at HC HU hm
   cases hb : t.any bad with
   | true =>
    have HF : Hid (unE s.data.toList = none):=hide (unE_stop (t:=[]) HU.out (by rw [List.append_nil]) hm hb)
    have HA:=hide (fun w => any_at t true w hb (by omega))
    clear hm hb ht hi htl hT1 hg
    rw [HF.out]
    go_wp2_with fail
    refine (HC.out).mono ?_
    rintro e w1 ⟨rfl,b1⟩
    have B1:=hide (andthen HW.out b1)
    clear b1
    go_wp2_with fail
    refine (HA.out _).mono ?_
    rintro e w2 ⟨rfl,b2⟩
    have B2:=hide (andthen B1.out b2)
    clear b2
    go_wp2_with fail
    go_ret2
    exact ⟨rfl,B2.out⟩
   | false =>
    have HF : Hid (unE s.data.toList = some (E ++ t)):=hide (unE_done HU.out hm hb)
    have HA:=hide (fun w => any_at t false w hb (by omega))
    have HLN : Hid (E.length <= 1000000 /\ (str t).size <= 1000000):=hide (by rw [str_size]; have:=HL.out; omega)
    clear hm hb ht hi htl hT1 hg
    rw [HF.out]
    go_wp2_with fail
    refine (HC.out).mono ?_
    rintro e w1 ⟨rfl,b1⟩
    have B1:=hide (andthen HW.out b1)
    replace HB:=hide (HB.out.keep b1)
    clear b1
    go_wp2_with fail
    refine (HA.out _).mono ?_
    rintro e w2 ⟨rfl,b2⟩
    have B2:=hide (andthen B1.out b2)
    replace HB:=hide (HB.out.keep b2)
    clear b2
    go_wp2_with fail
    refine (ws_any _ E (str t) w2 HB.out HLN.out.1 HLN.out.2).mono ?_
    rintro e w3 ⟨rfl,h3,b3⟩
    rw [str_list] at h3
    have H3:=hide h3
    have B3:=hide (B2.out.trans b3)
    clear h3 b3
    go_wp2_with fail
    refine (bstr_any _ _ w3 H3.out).mono ?_
    rintro e w4 ⟨rfl,b4⟩
    have B4:=hide (B3.out.trans b4)
    clear b4
    go_wp2_with fail
    go_ret2
    exact ⟨rfl,B4.out⟩
  ·have HC:=hide (cut_some T wr HEV.out hT1 i hi)
   obtain ⟨p,hp⟩ : ∃ p,T.data.toList.take i = p:=⟨_,rfl⟩
   obtain ⟨r,hr⟩ : ∃ r,T.data.toList.drop (i + 1) = r:=⟨_,rfl⟩
   have hlp : p.length + r.length + 1 = T.size:=by
    rw [<- hp,<- hr,List.length_take,List.length_drop]; rw [len_of] at *; omega
   rw [hp,hr] at HC hc
   rw [hp] at hm
   cases hb : p.any bad with
   | true =>
    have HF : Hid (unE s.data.toList = none):=hide (unE_stop HU.out hc hm hb)
    have HA:=hide (fun w => any_at p true w hb (by omega))
    clear hm hb hp hr hi hlp hT1 hg hc hlt
    rw [HF.out]
    go_wp2_with fail
    refine (HC.out).mono ?_
    rintro e w1 ⟨rfl,b1⟩
    have B1:=hide (andthen HW.out b1)
    clear b1
    go_wp2_with fail
    refine (HA.out _).mono ?_
    rintro e w2 ⟨rfl,b2⟩
    have B2:=hide (andthen B1.out b2)
    clear b2
    go_wp2_with fail
    go_ret2
    exact ⟨rfl,B2.out⟩
   | false =>
    have HA:=hide (fun w => any_at p false w hb (by omega))
    have HLN : Hid (E.length <= 1000000 /\ (str p).size <= 1000000):=hide (by rw [str_size]; have:=HL.out; omega)
    have HM:=hide (fun w => meant_at r w)
    have hodd : (r = [] ∨ ∃ d u,r = d :: u /\ mean d = none) -> unE s.data.toList = none:=fun h => unE_odd HU.out hc hm hb h
    have hnext : ∀ d u b,r = d :: u -> mean d = some b -> unE s.data.toList = (unE u).map (((E ++ p) ++ [b]) ++ ·):=fun d u b h1 h2 => unE_next HU.out (by rw [hc,h1]) hm hb h2
    rcases (by
     cases r with
     | nil => exact Or.inl ⟨Or.inl rfl,rfl⟩
     | cons d u =>
      cases hmd : mean d with
      | none => exact Or.inl ⟨Or.inr ⟨d,u,rfl,hmd⟩,by simp only [meanA,hmd]⟩
      | some b => exact Or.inr ⟨d,u,b,rfl,hmd,by simp only [meanA,hmd]⟩ :
     ((r = [] ∨ ∃ d u,r = d :: u /\ mean d = none) /\ meanA r = .tuple #[.int .u8 0,.bool false]) ∨ ∃ d u b,r = d :: u /\ mean d = some b /\ meanA r = .tuple #[.int .u8 b.toNat,.bool true]) with ⟨h,hA⟩ | ⟨d,u,b,h1,h2,hA⟩
    ·have HF:=hide (hodd h)
     rw [hA] at HM
     clear hm hb hp hr hi hlp hT1 hg hc hlt hodd hnext h hA
     rw [HF.out]
     go_wp2_with fail
     refine (HC.out).mono ?_
     rintro e w1 ⟨rfl,b1⟩
     have B1:=hide (andthen HW.out b1)
     replace HB:=hide (HB.out.keep b1)
     clear b1
     go_wp2_with fail
     refine (HA.out _).mono ?_
     rintro e w2 ⟨rfl,b2⟩
     have B2:=hide (andthen B1.out b2)
     replace HB:=hide (HB.out.keep b2)
     clear b2
     go_wp2_with fail
     refine (ws_any _ E (str p) w2 HB.out HLN.out.1 HLN.out.2).mono ?_
     rintro e w3 ⟨rfl,h3,b3⟩
     have B3:=hide (B2.out.trans b3)
     clear h3 b3
     go_wp2_with fail
     refine (HM.out _).mono ?_
     rintro e w4 ⟨rfl,rfl⟩
     go_wp2_with fail
     go_ret2
     exact ⟨rfl,B3.out⟩
    ·have HN:=hide (hnext d u b h1 h2)
     subst h1
     rw [hA] at HM
     have HX : Hid ((str (d :: u)).extract 1 (str (d :: u)).size = str u):=hide (by rw [ext_end,str_list]; rfl)
     have hx1 : (1 : Int) <= ((str (d :: u)).size : Int):=by rw [str_size,List.length_cons]; omega
     have HMS : Hid (u.length < gk /\ (((E ++ p) ++ [b]).length + u.length <= s.size) /\ (E ++ p).length <= 1000000):=hide (by
      simp only [List.length_append,List.length_cons,List.length_nil] at hlp ⊢
      have:=HL.out
      omega)
     obtain ⟨X,hXe⟩ : ∃ X,(str (d :: u)).extract 1 (str (d :: u)).size = X:=⟨_,rfl⟩
     rw [hXe] at HX
     unfold Cuts at HC
     generalize str (d :: u) = R at *
     clear hm hb hp hr hi hlp hT1 hg hc hlt hodd hnext h2 hA
     go_wp2_with fail
     refine (HC.out).mono ?_
     rintro e w1 ⟨rfl,b1⟩
     have B1:=hide (andthen HW.out b1)
     replace HB:=hide (HB.out.keep b1)
     clear b1
     go_wp2_with fail
     refine (HA.out _).mono ?_
     rintro e w2 ⟨rfl,b2⟩
     have B2:=hide (andthen B1.out b2)
     replace HB:=hide (HB.out.keep b2)
     clear b2
     go_wp2_with fail
     refine (ws_any _ E (str p) w2 HB.out HLN.out.1 HLN.out.2).mono ?_
     rintro e w3 ⟨rfl,h3,b3⟩
     rw [str_list] at h3
     have H3:=hide h3
     have B3:=hide (B2.out.trans b3)
     clear h3 b3
     go_wp2_with fail
     refine (HM.out _).mono ?_
     rintro e w4 ⟨rfl,rfl⟩
     go_wp2_with fail
     refine (wb_any _ (E ++ p) b _ rfl w3 H3.out HMS.out.2.2).mono ?_
     rintro e w5 ⟨rfl,h5,b5⟩
     have H5:=hide h5
     have B5:=hide (B3.out.trans b5)
     clear h5 b5
     go_wp2_with fail
     go_roundg u.length
     case measure => exact HMS.out.1
     case rel => exact ⟨X,_,rfl,by rw [HX.out,str_size],H5,by rw [HX.out,str_list]; exact HN,hide (by rw [HX.out,str_size]; exact HMS.out.2.1),B5⟩
theorem step_atS {ops : Array Oper} {o : Oper} {a : Act} {K : Act -> World -> Prop} {Q : Exit -> Act -> World -> Prop} {E : Prop} {w : World} {B : Nat} {v : Value} {l k : List Tx} (hgd : o.guard = none) (s x : Operand)
  (ho : o.op = .call { callee:=.builtin .append,args:=#[s,x],argTypes:=#[52,52] }) (hs : a.eval s = v) {b off m c : Nat} (hx : a.eval x = .slice (some ⟨b,off,none⟩) m c) (hm : m = k.length)
  (hrow : ∀ i (h : i < k.length),w.cell? ⟨b,off + i,none⟩ = some (.string (str k[i])))
  (hown : OwnS w B v l) (hB : B <= w.heap.size) (hn : l.length <= 1000000) (hk : k.length <= 1000000)
  (h : ∀ v' w',OwnS w' B v' (l ++ k) -> Below B w w' -> K (a.put o.dst v') w') :
  if Region.wanted o (yielded ops a.tmps) = true then Oper.wp Tryz.prog o a w K Q else E:=by
 have hw : Region.wanted o (yielded ops a.tmps) = true:=by simp [Region.wanted,hgd]
 rw [if_pos hw]
 subst hm
 obtain ⟨i0,hi,hz0,hz1,hz2⟩:=info_parts string_info
 have hnews : ∀ j u,(cellsS k)[j]? = some u -> w.cell? ((⟨b,off,none⟩ : Addr).add j) = some u:=by
  intro j u hu
  have hadd : (⟨b,off,none⟩ : Addr).add j = ⟨b,off + j,none⟩:=by unfold Addr.add; split <;> simp_all
  rw [hadd]
  unfold cellsS at hu
  rw [List.getElem?_map,Option.map_eq_some_iff] at hu
  obtain ⟨t,ht,rfl⟩:=hu
  obtain ⟨hj,e⟩:=List.getElem?_eq_some_iff.1 ht
  rw [hrow j hj,e]
 obtain ⟨v',w',hr,h2,h3,_,_⟩:=run_append_own_at (P:=Tryz.prog) (w:=w) B 52 o.type 9 i0 _ 1 16 Tryz.underlying52 hi hz0 hz1 hz2 rfl (by decide) v l.length (cellsS l) hown ⟨b,off,none⟩ k.length c (cellsS k) (by rw [cellsS_len,Nat.mul_one]) hnews (fun u hu => by obtain ⟨t,_,rfl⟩:=List.mem_map.1 hu; rfl) (by unfold maxLen; omega) (by omega) hB
 unfold Oper.wp execOp
 simp only [ho,resolve,invoke,builtin,Sem.run_bind,Sem.run_pure,Result.andThen_ok,List.map_toArray,List.map_cons,List.map_nil,hs,hx,hr]
 exact h v' w' (by rw [OwnS,cellsS_append,List.length_append]; exact h2) ((Below.refl B w).grown h3 hB fun j hj => (hown.lt j hj).1)
theorem one_cell (w : World) (t : Tx) : ∀ i (h : i < [t].length),(w.alloc (.cells #[.string (str t)] 9)).cell? ⟨w.heap.size,0 + i,none⟩ = some (.string (str [t][i])):=fun i hi => by
 obtain rfl : i = 0:=by simpa using hi
 rw [World.cell?_alloc_at _ _ _ _ rfl]; rfl
theorem kL {B b1 o1 X : Nat} {v : Value} {W W1 : World} (hX : X = W.heap.size ∨ X = B) (hb : Below X W W1) (h : W.cell? ⟨b1,o1,none⟩ = some v /\ b1 < W.heap.size /\ b1 < B) : W1.cell? ⟨b1,o1,none⟩ = some v /\ b1 < W1.heap.size /\ b1 < B:=by
 refine ⟨(hb.cell (p:=⟨b1,o1,none⟩) ?_).trans h.1,Nat.lt_of_lt_of_le h.2.1 hb.size,h.2.2⟩
 rcases hX with e | e
 ·rw [e]; exact h.2.1
 ·rw [e]; exact h.2.2
theorem RowS.keepB {B : Nat} {w w1 w2 : World} {A : Option Addr} {l : List Tx} (h : RowS w A l /\ Below w.heap.size w w1) (hb : Below B w1 w2) (hB : w.heap.size <= B) : RowS w2 A l:=fun hn => by
 obtain ⟨b,off,e,hl,hc⟩:=h.1 hn
 refine ⟨b,off,e,Nat.lt_of_lt_of_le (Nat.lt_of_lt_of_le hl h.2.size) hb.size,fun i hi => ?_⟩
 exact ((hb.cell (p:=⟨b,off + i,none⟩) (Nat.lt_of_lt_of_le hl hB)).trans (h.2.cell (p:=⟨b,off + i,none⟩) hl)).trans (hc i hi)
theorem RowS.drop {w : World} {b off : Nat} {l : List Tx} (h : RowS w (some ⟨b,off,none⟩) l) (k : Nat) : RowS w (some ⟨b,off + k,none⟩) (l.drop k):=fun hn => by
 have h0 : l ≠ []:=fun e => hn (by rw [e]; simp)
 obtain ⟨b',off',e,hl,hc⟩:=h h0
 injection e with e
 injection e with e1 e2 _
 subst e1 e2
 refine ⟨b,off + k,rfl,hl,fun i hi => ?_⟩
 rw [List.length_drop] at hi
 rw [List.getElem_drop,Nat.add_assoc]
 exact hc (k + i) (by omega)
theorem RowS.dropI {w : World} {b off : Nat} {l : List Tx} (h : RowS w (some ⟨b,off,none⟩) l) (c k : Nat) (hc : l.length <= c) : RowS w (if c = k then some ⟨b,off,none⟩ else some ⟨b,off + k,none⟩) (l.drop k):=by
 split
 ·rename_i e
  rw [List.drop_eq_nil_of_le (by omega)]
  exact RowS.nil _ _
 ·exact h.drop k
theorem RowS.take {w : World} {A : Option Addr} {l : List Tx} (h : RowS w A l) (k : Nat) : RowS w A (l.take k):=fun hn => by
 have h0 : l ≠ []:=fun e => hn (by rw [e]; simp)
 obtain ⟨b,off,e,hl,hc⟩:=h h0
 refine ⟨b,off,e,hl,fun i hi => ?_⟩
 rw [List.length_take] at hi
 rw [List.getElem_take]
 exact hc i (by omega)
theorem hasPre (T : Tx) : Lib.hasPrefix T [32] = goesOn T:=by
 cases T with
 | nil => rfl
 | cons c t =>
  show List.isPrefixOf (32 :: []) (c :: t) = (some c == some 32)
  rw [List.isPrefixOf,List.isPrefixOf,Bool.and_true]
  cases h : (32 : UInt8) == c with
  | true => rw [beq_iff_eq] at h; subst h; rfl
  | false => rw [beq_eq_false_iff_ne] at h; symm; rw [beq_eq_false_iff_ne]; intro e; injection e with e; exact h e.symm
theorem pre_any (T : Tx) (w : World) : Calls Tryz.prog 71 #[.string (str T),.string (str [32])] w fun e w' => e = .returned (.bool (goesOn T)) /\ w' = w:=by
 have:=Tryz.strings_HasPrefix (str T) (str [32]) w
 rw [str_list,str_list,hasPre] at this
 exact this
theorem lines_any (A : Option Addr) (n c : Nat) (ps : List Tx) (w : World) (hl : RowS w A ps) (hn : n = ps.length) (hcap : ps.length <= c) (hsz : ps.length <= 200000) (hf : ps.flatten.length <= 200000) :
  Calls Tryz.prog 46 #[.slice A n c] w (GivesS w (grp ps)):=by
 subst hn
 have HR:=hide hl
 have HC:=hide hcap
 have HSF:=hide (And.intro hsz hf)
 clear hl hcap hsz hf
 go_enter Tryz.func46,Tryz.ntmps46
 go_wp2_with fail
 go_loopg [0,3,4] ps.length (fun g P v _ wr => ∃ (A' : Option Addr) (c' : Nat) (q done : List Tx),P = .slice A' q.length c' /\ q.length = g /\ Hid (RowS w A' q) /\ Hid (q.length <= c') /\ OwnS wr w.heap.size v done /\ Hid (grp ps = done ++ grp q) /\ Hid (done.length + q.length <= ps.length /\ q.flatten.length <= ps.flatten.length) /\ Below w.heap.size w wr)
 case atStart => exact ⟨A,c,ps,[],rfl,rfl,HR,HC,ownS_nil _ _,hide rfl,hide ⟨by simp,Nat.le_refl _⟩,start _⟩
 case round =>
  obtain ⟨A',c',q,done,rfl,hg,HRQ,HCQ,hown,HN,HL,hbw⟩:=hrel
  have HO:=hide hown
  have HBR:=hide hbw
  clear hown hbw
  obtain ⟨m,hm⟩ : ∃ m,q.length = m:=⟨_,rfl⟩
  rw [hm] at hg ⊢
  subst hg
  by_cases h0 : m = 0
  ·have hq : q = []:=List.eq_nil_of_length_eq_zero (by omega)
   have HF : Hid (grp ps = done):=hide (by rw [HN.out,hq,grp_nil,List.append_nil])
   subst h0
   clear hq hm
   go_wp2_with fail
   go_ret
   exact ⟨_,rfl,by rw [HF.out]; exact HO.out,HBR.out⟩
  ·have hq : q ≠ []:=fun e => h0 (by rw [<- hm,e]; rfl)
   obtain ⟨b1,o1,rfl,hbl,hc⟩:=HRQ.out hq
   have hm0 : (0 : Int) < (m : Int):=by omega
   have hd0 : decide (0 < m) = true:=decide_eq_true (by omega)
   have hmN : 0 < m:=by omega
   have HM:=hide hm
   have HLT:=hide (And.intro hbl hc)
   obtain ⟨V,rfl⟩ : ∃ V,V = wr:=⟨wr,rfl⟩
   have hcm : m <= c':=by have:=HCQ.out; omega
   have hmb : (m : Int) <= 300000:=by have:=HL.out.1; have:=HSF.out.1; omega
   clear h0 hbl hc hm
   go_wp2_with fail
   go_loopw [4] (fun x wx => ∃ k : Nat,1 <= k /\ k <= m /\ x = .int .i64 k /\ Hid (∀ i (h : i < q.length),0 < i -> i < k -> goesOn q[i] = true) /\ wx = V) (fun x _ => m - (intOf x).toNat)
   case atStart => exact ⟨1,Nat.le_refl _,by omega,rfl,hide (fun i h h1 h2 => absurd h2 (by omega)),rfl⟩
   case round =>
    obtain ⟨k,hk1,hkm,rfl,HG,rfl⟩:=hrel
    have hk0 : (0 : Int) <= (k : Int):=by omega
    have hki : (1 : Int) <= (k : Int):=by omega
    have hkm1 : (k : Int) <= (m : Int):=by omega
    have hkc : (k : Int) <= (c' : Int):=by omega
    have hkq : k <= q.length:=by rw [HM.out]; exact hkm
    have h0q : 0 < q.length:=by rw [HM.out]; omega
    obtain ⟨p0,hp0⟩ : ∃ p,q[0] = p:=⟨_,rfl⟩
    have P0 : wr.cell? ⟨b1,o1,none⟩ = some (.string (str p0)):=by rw [<- hp0]; exact (HBR.out.cell (p:=⟨b1,_,none⟩) HLT.out.1).trans (HLT.out.2 0 h0q)
    have hS0 : wr.cell? ⟨b1,o1,none⟩ = some (.string (str p0)) /\ b1 < wr.heap.size /\ b1 < w.heap.size:=⟨P0,Nat.lt_of_lt_of_le HLT.out.1 HBR.out.size,HLT.out.1⟩
    obtain ⟨LN,hLN⟩ : ∃ LN,p0 ++ tls ((q.take k).drop 1) = LN:=⟨_,rfl⟩
    have HE : Hid ((∀ h : k < q.length,goesOn q[k] = false) -> grp ps = (done ++ [LN]) ++ grp (q.drop k)):=hide (fun h2 => by
     have:=grp_at q 0 k h0q (by omega) hkq (fun i h h1 h2 => HG.out i h h1 h2) h2
     rw [List.drop_zero] at this
     rw [HN.out,this,<- hLN,<- hp0]; simp)
    have HMI : Hid (((q.take k).drop 1).length = k - 1):=hide (by rw [List.length_drop,List.length_take,HM.out]; omega)
    have HGM : Hid (∀ i (h : i < ((q.take k).drop 1).length),goesOn ((q.take k).drop 1)[i] = true):=hide (fun i h => by
     have h':=h
     rw [HMI.out] at h'
     rw [List.getElem_drop,List.getElem_take]
     exact HG.out _ (by omega) (by omega) (by omega))
    have HFL : Hid (p0.length + ((q.take k).drop 1).flatten.length <= 500000):=hide (by
     have g1 : p0.length <= q.flatten.length:=flat_at q p0 (by rw [<- hp0]; exact List.getElem_mem h0q)
     have g2:=flat_drop (q.take k) 1
     have g3:=flat_take q k
     have g4:=HL.out.2
     have g5:=HSF.out.2
     omega)
    have HU : Hid (∀ W,RowS W (if c' = 1 then some ⟨b1,o1,none⟩ else some ⟨b1,o1 + 1,none⟩) ((q.take k).drop 1) -> Calls Tryz.prog 72 #[.string (str p0),.slice (if c' = 1 then some ⟨b1,o1,none⟩ else some ⟨b1,o1 + 1,none⟩) (k - 1) (c' - 1)] W (Ans W (.string (str LN)))):=hide (fun W hW => by
     have:=unfolded_any p0 (if c' = 1 then some ⟨b1,o1,none⟩ else some ⟨b1,o1 + 1,none⟩) (k - 1) (c' - 1) ((q.take k).drop 1) W hW HMI.out.symm HGM.out (by rw [HMI.out]; omega) HFL.out
     rw [hLN] at this
     exact this)
    have HRK : Hid (RowS w (if c' = 1 then some ⟨b1,o1,none⟩ else some ⟨b1,o1 + 1,none⟩) ((q.take k).drop 1) /\ Below w.heap.size w wr):=hide ⟨((HRQ.out).take k).dropI c' 1 (by rw [List.length_take]; omega),HBR.out⟩
    have HSZ : Hid (w.heap.size <= wr.heap.size):=hide HBR.out.size
    have HRD : Hid (RowS w (if c' = k then some ⟨b1,o1,none⟩ else some ⟨b1,o1 + k,none⟩) (q.drop k)):=hide (HRQ.out.dropI c' k HCQ.out)
    have HCD : Hid ((q.drop k).length <= c' - k):=hide (by rw [List.length_drop,HM.out]; omega)
    have HLD : Hid ((done ++ [LN]).length + (q.drop k).length <= ps.length /\ (q.drop k).flatten.length <= ps.flatten.length):=hide (by
     refine ⟨?_,Nat.le_trans (flat_drop q k) HL.out.2⟩
     rw [List.length_append,List.length_drop,List.length_singleton]
     have:=HL.out.1
     omega)
    have HLN : Hid (done.length <= 1000000):=hide (by have:=HL.out.1; have:=HSF.out.1; omega)
    by_cases hlt : k < m
    ·have hki1 : (k : Int) < (m : Int):=by omega
     have hkl : k < q.length:=by rw [HM.out]; exact hlt
     obtain ⟨T,hT⟩ : ∃ T,q[k] = T:=⟨_,rfl⟩
     have p1 : wr.cell? ⟨b1,o1 + k,none⟩ = some (.string (str T)):=by rw [<- hT]; exact (HBR.out.cell (p:=⟨b1,_,none⟩) HLT.out.1).trans (HLT.out.2 k hkl)
     have HP:=hide (fun w => pre_any T w)
     cases hgo : goesOn T with
     | true =>
      rw [hgo] at HP
      have HG2 : Hid (∀ i (h : i < q.length),0 < i -> i < k + 1 -> goesOn q[i] = true):=hide (fun i h h1 h2 => by
       rcases Nat.lt_or_ge i k with g | g
       ·exact HG.out i h h1 g
       ·obtain rfl : i = k:=by omega
        rw [hT]; exact hgo)
      clear hT hgo hkq h0q hp0 hLN hkl
      go_wp2_with fail
      refine (HP.out _).mono ?_
      rintro e w2 ⟨rfl,rfl⟩
      go_wp2_with fail
      go_roundw
      case rel => exact ⟨k + 1,by omega,by omega,by go_num,HG2,by trivial⟩
      case measure => simp [intOf]; omega
     | false =>
      rw [hgo] at HP
      have HND:=hide (HE.out (fun h => by rw [hT]; exact hgo))
      replace HRD:=hide (HRQ.out.drop k)
      clear hT hgo hkq h0q hp0 hLN hkl
      go_wp2_with fail
      refine (HP.out _).mono ?_
      rintro e w2 ⟨rfl,rfl⟩
      have hown:=HO.out
      have hbz:=HBR.out
      go_wp2_with fail
      refine wp_region_held_drew (S:=fun W' => W'.cell? ⟨b1,o1,none⟩ = some (.string (str p0)) /\ b1 < W'.heap.size /\ b1 < w.heap.size) (by kernel_rfl) ?_ (fun hH0 => ?_)
      ·exact kL (Or.inl rfl) (Below.drew (start _)) hS0
      refine' wpAnyH_take (i:=0) (oi:=_) (v:=?v0) rfl (by as_aux_lemma => kernel_rfl) (by as_aux_lemma => kernel_rfl) (by as_aux_lemma => kernel_rfl) (fun _ _ _ h => h) (Or.inl ⟨by rfl,?y0⟩) hH0 ?r0
      case y0 => (intro w hSw; (try dsimp only at hSw); go_simp; (try with_reducible rfl))
      try simp only [Act.put,List.getElem_toArray,List.getElem_cons_zero,List.setIfInBounds_toArray,List.set_cons_zero,List.set_cons_succ]
      refine' wpAnyH_take (i:=1) (oi:=_) (v:=?v1) rfl (by as_aux_lemma => kernel_rfl) (by as_aux_lemma => kernel_rfl) (by as_aux_lemma => kernel_rfl) (fun _ _ _ h => h) (Or.inl ⟨by rfl,?y1⟩) hH0 ?r1
      case y1 => (intro w hSw; (try dsimp only at hSw); go_simp; (try with_reducible rfl))
      try simp only [Act.put,List.getElem_toArray,List.getElem_cons_succ,List.getElem_cons_zero,List.setIfInBounds_toArray,List.set_cons_zero,List.set_cons_succ]
      refine' wpAnyH_take (i:=2) (oi:=_) (v:=?v2) rfl (by as_aux_lemma => kernel_rfl) (by as_aux_lemma => kernel_rfl) (by as_aux_lemma => kernel_rfl) (fun _ _ _ h => h) (Or.inl ⟨by rfl,?y2⟩) hH0 ?r2
      case y2 => (intro w hSw; (try dsimp only at hSw); go_simp; (try with_reducible rfl))
      try simp only [Act.put,List.getElem_toArray,List.getElem_cons_succ,List.getElem_cons_zero,List.setIfInBounds_toArray,List.set_cons_zero,List.set_cons_succ]
      refine' wpAnyH_take (i:=3) (oi:=_) (v:=?v3) rfl (by as_aux_lemma => kernel_rfl) (by as_aux_lemma => kernel_rfl) (by as_aux_lemma => kernel_rfl) (fun _ _ _ h => h) (Or.inl ⟨by rfl,?y3⟩) hH0 ?r3
      case y3 => (intro w hSw; (try dsimp only at hSw); go_simp; (try with_reducible rfl))
      try simp only [Act.put,List.getElem_toArray,List.getElem_cons_succ,List.getElem_cons_zero,List.setIfInBounds_toArray,List.set_cons_zero,List.set_cons_succ]
      refine' wpAnyH_take (i:=4) (oi:=_) (v:=?v4) rfl (by as_aux_lemma => kernel_rfl) (by as_aux_lemma => kernel_rfl) (by as_aux_lemma => kernel_rfl) (fun _ _ _ h => h) (Or.inl ⟨by rfl,?y4⟩) hH0 ?r4
      case y4 => (intro w hSw; (try dsimp only at hSw); go_simp; (try with_reducible rfl))
      try simp only [Act.put,List.getElem_toArray,List.getElem_cons_succ,List.getElem_cons_zero,List.setIfInBounds_toArray,List.set_cons_zero,List.set_cons_succ]
      refine' wpAnyH_take (i:=5) (oi:=_) (v:=?v5) rfl (by as_aux_lemma => kernel_rfl) (by as_aux_lemma => kernel_rfl) (by as_aux_lemma => kernel_rfl) (fun _ _ _ h => h) (Or.inl ⟨by rfl,?y5⟩) hH0 ?r5
      case y5 => (intro w hSw; (try dsimp only at hSw); go_simp; (try with_reducible rfl))
      try simp only [Act.put,List.getElem_toArray,List.getElem_cons_succ,List.getElem_cons_zero,List.setIfInBounds_toArray,List.set_cons_zero,List.set_cons_succ]
      refine' wpAnyH_take (i:=6) (oi:=_) (v:=?v6) rfl (by as_aux_lemma => kernel_rfl) (by as_aux_lemma => kernel_rfl) (by as_aux_lemma => kernel_rfl) (fun _ _ _ h => h) (Or.inl ⟨by rfl,?y6⟩) hH0 ?r6
      case y6 => (intro w hSw; (try dsimp only at hSw); go_simp; (try with_reducible rfl))
      try simp only [Act.put,List.getElem_toArray,List.getElem_cons_succ,List.getElem_cons_zero,List.setIfInBounds_toArray,List.set_cons_zero,List.set_cons_succ]
      refine wpAnyH_ready (rs:=[7]) (by as_aux_lemma => kernel_rfl) (by simp) ?_
      refine AllReadyH.cons (o:=_) rfl (fun K hK => ?_) AllReadyH.nil
      go_simp
      refine (HU.out _ (RowS.keepB HRK.out (Below.drew (start _)) HSZ.out)).mono ?_
      rintro e w3 ⟨rfl,hb⟩
      replace hown:=OwnS.keep hown (andthen (start _).drew hb)
      replace hbz:=andthen hbz (andthen (start _).drew hb)
      refine hK.out _ _ (kL (by first | exact Or.inl rfl | exact Or.inr rfl) hb hH0) (fun hN => ?_)
      clear hK K hH0
      have hH1:=hN
      clear hN
      try simp only [Act.put,List.getElem_toArray,List.getElem_cons_succ,List.getElem_cons_zero,List.setIfInBounds_toArray,List.set_cons_zero,List.set_cons_succ]
      refine wpAnyH_ready (rs:=[8]) (by as_aux_lemma => kernel_rfl) (by simp) ?_
      refine AllReadyH.cons (o:=_) rfl (fun K hK => ?_) AllReadyH.nil
      go_simp
      refine hK.out _ _ (kL (by first | exact Or.inl rfl | exact Or.inr rfl) (more (start _) _) hH1) (fun hN => ?_)
      clear hK K hH1
      have hH2:=hN
      clear hN
      try simp only [Act.put,List.getElem_toArray,List.getElem_cons_succ,List.getElem_cons_zero,List.setIfInBounds_toArray,List.set_cons_zero,List.set_cons_succ]
      refine wpAnyH_ready (rs:=[9]) (by as_aux_lemma => kernel_rfl) (by simp) ?_
      refine AllReadyH.cons (o:=_) rfl (fun K hK => ?_) AllReadyH.nil
      refine step_atS (l:=done) (k:=[LN]) rfl _ _ rfl rfl rfl rfl (one_cell _ _) (hown.alloc _) (Nat.le_trans hbz.size (more (start w3) _).size) HLN.out (by simp) ?_
      intro v9 w9 hown9 hb
      have hb9:=hbz.trans (((Below.refl _ w3).alloc hbz.size _).trans hb)
      refine hK.out _ _ (kL (by first | exact Or.inl rfl | exact Or.inr rfl) hb hH2) (fun hN => ?_)
      clear hK K hH2
      have hH3:=hN
      clear hN
      try simp only [Act.put,List.getElem_toArray,List.getElem_cons_succ,List.getElem_cons_zero,List.setIfInBounds_toArray,List.set_cons_zero,List.set_cons_succ]
      refine' wpAnyH_take (i:=10) (oi:=_) (v:=?v7) rfl (by as_aux_lemma => kernel_rfl) (by as_aux_lemma => kernel_rfl) (by as_aux_lemma => kernel_rfl) (fun _ _ _ h => h) (Or.inl ⟨by rfl,?y7⟩) hH3 ?r7
      case y7 => (intro w hSw; (try dsimp only at hSw); go_simp; (try with_reducible rfl))
      try simp only [Act.put,List.getElem_toArray,List.getElem_cons_succ,List.getElem_cons_zero,List.setIfInBounds_toArray,List.set_cons_zero,List.set_cons_succ]
      refine wpAnyH_done (by as_aux_lemma => kernel_rfl) ?_ _
      have HO9:=hide hown9
      have HB9:=hide hb9
      clear hH3 hown hbz hown9 hb9 hb
      go_wp2_with fail
      go_roundg (m - k)
      case measure => omega
      case rel => exact ⟨_,_,q.drop k,done ++ [LN],by rw [List.length_drop,HM.out],by rw [List.length_drop,HM.out],HRD,HCD,HO9.out,HND,HLD,HB9.out⟩
    ·obtain rfl : k = m:=by omega
     have HND:=hide (HE.out (fun h => absurd h (by rw [HM.out]; omega)))
     clear hkq h0q hp0 hLN hlt
     have hown:=HO.out
     have hbz:=HBR.out
     go_wp2_with fail
     refine wp_region_held_drew (S:=fun W' => W'.cell? ⟨b1,o1,none⟩ = some (.string (str p0)) /\ b1 < W'.heap.size /\ b1 < w.heap.size) (by kernel_rfl) ?_ (fun hH0 => ?_)
     ·exact kL (Or.inl rfl) (Below.drew (start _)) hS0
     refine' wpAnyH_take (i:=0) (oi:=_) (v:=?v20) rfl (by as_aux_lemma => kernel_rfl) (by as_aux_lemma => kernel_rfl) (by as_aux_lemma => kernel_rfl) (fun _ _ _ h => h) (Or.inl ⟨by rfl,?y20⟩) hH0 ?r20
     case y20 => (intro w hSw; (try dsimp only at hSw); go_simp; (try with_reducible rfl))
     try simp only [Act.put,List.getElem_toArray,List.getElem_cons_zero,List.setIfInBounds_toArray,List.set_cons_zero,List.set_cons_succ]
     refine' wpAnyH_take (i:=1) (oi:=_) (v:=?v21) rfl (by as_aux_lemma => kernel_rfl) (by as_aux_lemma => kernel_rfl) (by as_aux_lemma => kernel_rfl) (fun _ _ _ h => h) (Or.inl ⟨by rfl,?y21⟩) hH0 ?r21
     case y21 => (intro w hSw; (try dsimp only at hSw); go_simp; (try with_reducible rfl))
     try simp only [Act.put,List.getElem_toArray,List.getElem_cons_succ,List.getElem_cons_zero,List.setIfInBounds_toArray,List.set_cons_zero,List.set_cons_succ]
     refine' wpAnyH_take (i:=2) (oi:=_) (v:=?v22) rfl (by as_aux_lemma => kernel_rfl) (by as_aux_lemma => kernel_rfl) (by as_aux_lemma => kernel_rfl) (fun _ _ _ h => h) (Or.inl ⟨by rfl,?y22⟩) hH0 ?r22
     case y22 => (intro w hSw; (try dsimp only at hSw); go_simp; (try with_reducible rfl))
     try simp only [Act.put,List.getElem_toArray,List.getElem_cons_succ,List.getElem_cons_zero,List.setIfInBounds_toArray,List.set_cons_zero,List.set_cons_succ]
     refine' wpAnyH_take (i:=3) (oi:=_) (v:=?v23) rfl (by as_aux_lemma => kernel_rfl) (by as_aux_lemma => kernel_rfl) (by as_aux_lemma => kernel_rfl) (fun _ _ _ h => h) (Or.inl ⟨by rfl,?y23⟩) hH0 ?r23
     case y23 => (intro w hSw; (try dsimp only at hSw); go_simp; (try with_reducible rfl))
     try simp only [Act.put,List.getElem_toArray,List.getElem_cons_succ,List.getElem_cons_zero,List.setIfInBounds_toArray,List.set_cons_zero,List.set_cons_succ]
     refine' wpAnyH_take (i:=4) (oi:=_) (v:=?v24) rfl (by as_aux_lemma => kernel_rfl) (by as_aux_lemma => kernel_rfl) (by as_aux_lemma => kernel_rfl) (fun _ _ _ h => h) (Or.inl ⟨by rfl,?y24⟩) hH0 ?r24
     case y24 => (intro w hSw; (try dsimp only at hSw); go_simp; (try with_reducible rfl))
     try simp only [Act.put,List.getElem_toArray,List.getElem_cons_succ,List.getElem_cons_zero,List.setIfInBounds_toArray,List.set_cons_zero,List.set_cons_succ]
     refine' wpAnyH_take (i:=5) (oi:=_) (v:=?v25) rfl (by as_aux_lemma => kernel_rfl) (by as_aux_lemma => kernel_rfl) (by as_aux_lemma => kernel_rfl) (fun _ _ _ h => h) (Or.inl ⟨by rfl,?y25⟩) hH0 ?r25
     case y25 => (intro w hSw; (try dsimp only at hSw); go_simp; (try with_reducible rfl))
     try simp only [Act.put,List.getElem_toArray,List.getElem_cons_succ,List.getElem_cons_zero,List.setIfInBounds_toArray,List.set_cons_zero,List.set_cons_succ]
     refine' wpAnyH_take (i:=6) (oi:=_) (v:=?v26) rfl (by as_aux_lemma => kernel_rfl) (by as_aux_lemma => kernel_rfl) (by as_aux_lemma => kernel_rfl) (fun _ _ _ h => h) (Or.inl ⟨by rfl,?y26⟩) hH0 ?r26
     case y26 => (intro w hSw; (try dsimp only at hSw); go_simp; (try with_reducible rfl))
     try simp only [Act.put,List.getElem_toArray,List.getElem_cons_succ,List.getElem_cons_zero,List.setIfInBounds_toArray,List.set_cons_zero,List.set_cons_succ]
     refine wpAnyH_ready (rs:=[7]) (by as_aux_lemma => kernel_rfl) (by simp) ?_
     refine AllReadyH.cons (o:=_) rfl (fun K hK => ?_) AllReadyH.nil
     go_simp
     refine (HU.out _ (RowS.keepB HRK.out (Below.drew (start _)) HSZ.out)).mono ?_
     rintro e w3 ⟨rfl,hb⟩
     replace hown:=OwnS.keep hown (andthen (start _).drew hb)
     replace hbz:=andthen hbz (andthen (start _).drew hb)
     refine hK.out _ _ (kL (by first | exact Or.inl rfl | exact Or.inr rfl) hb hH0) (fun hN => ?_)
     clear hK K hH0
     have hH1:=hN
     clear hN
     try simp only [Act.put,List.getElem_toArray,List.getElem_cons_succ,List.getElem_cons_zero,List.setIfInBounds_toArray,List.set_cons_zero,List.set_cons_succ]
     refine wpAnyH_ready (rs:=[8]) (by as_aux_lemma => kernel_rfl) (by simp) ?_
     refine AllReadyH.cons (o:=_) rfl (fun K hK => ?_) AllReadyH.nil
     go_simp
     refine hK.out _ _ (kL (by first | exact Or.inl rfl | exact Or.inr rfl) (more (start _) _) hH1) (fun hN => ?_)
     clear hK K hH1
     have hH2:=hN
     clear hN
     try simp only [Act.put,List.getElem_toArray,List.getElem_cons_succ,List.getElem_cons_zero,List.setIfInBounds_toArray,List.set_cons_zero,List.set_cons_succ]
     refine wpAnyH_ready (rs:=[9]) (by as_aux_lemma => kernel_rfl) (by simp) ?_
     refine AllReadyH.cons (o:=_) rfl (fun K hK => ?_) AllReadyH.nil
     refine step_atS (l:=done) (k:=[LN]) rfl _ _ rfl rfl rfl rfl (one_cell _ _) (hown.alloc _) (Nat.le_trans hbz.size (more (start w3) _).size) HLN.out (by simp) ?_
     intro v9 w9 hown9 hb
     have hb9:=hbz.trans (((Below.refl _ w3).alloc hbz.size _).trans hb)
     refine hK.out _ _ (kL (by first | exact Or.inl rfl | exact Or.inr rfl) hb hH2) (fun hN => ?_)
     clear hK K hH2
     have hH3:=hN
     clear hN
     try simp only [Act.put,List.getElem_toArray,List.getElem_cons_succ,List.getElem_cons_zero,List.setIfInBounds_toArray,List.set_cons_zero,List.set_cons_succ]
     refine' wpAnyH_take (i:=10) (oi:=_) (v:=?v27) rfl (by as_aux_lemma => kernel_rfl) (by as_aux_lemma => kernel_rfl) (by as_aux_lemma => kernel_rfl) (fun _ _ _ h => h) (Or.inl ⟨by rfl,?y27⟩) hH3 ?r27
     case y27 => (intro w hSw; (try dsimp only at hSw); go_simp; (try with_reducible rfl))
     try simp only [Act.put,List.getElem_toArray,List.getElem_cons_succ,List.getElem_cons_zero,List.setIfInBounds_toArray,List.set_cons_zero,List.set_cons_succ]
     refine wpAnyH_done (by as_aux_lemma => kernel_rfl) ?_ _
     have HO9:=hide hown9
     have HB9:=hide hb9
     clear hH3 hown hbz hown9 hb9 hb
     have hz0 : q.drop k = []:=List.drop_eq_nil_of_le (by rw [HM.out]; exact Nat.le_refl _)
     rw [hz0] at HND HLD
     have HNZ:=hide HND.out
     have HLZ:=hide HLD.out
     clear HND HLD hz0
     go_wp2_with fail
     all_goals
      go_roundg 0
      case measure => omega
      case rel => exact ⟨_,_,[],done ++ [LN],rfl,rfl,hide (RowS.nil _ _),hide (Nat.zero_le _),HO9.out,HNZ,HLZ,HB9.out⟩
theorem unfold_any (s : ByteArray) (w : World) (he : Env w) (hs : s.size <= 100000) :
  Calls Tryz.prog 22 #[.string s] w (GivesS w (unfoldE s.data.toList)):=by
 have HS:=hide (splitEnds_any s w he (by omega))
 have hl1:=split_len s.data.toList
 have hl2:=fin_len (Lib.split s.data.toList crlf)
 have hl3:=split_flat_len s.data.toList
 have hl4:=fin_flat (Lib.split s.data.toList crlf)
 rw [len_of] at hl1 hl3
 have HL : Hid ((fin (Lib.split s.data.toList crlf)).length <= 200000 /\ (fin (Lib.split s.data.toList crlf)).flatten.length <= 200000):=hide ⟨by omega,by omega⟩
 have HE : Hid (unfoldE s.data.toList = grp (fin (Lib.split s.data.toList crlf))):=hide (by unfold unfoldE; rw [lines_grp])
 rw [HE.out]
 generalize fin (Lib.split s.data.toList crlf) = ps at *
 clear hl1 hl2 hl3 hl4 he hs HE
 go_enter Tryz.func22,Tryz.ntmps22
 go_wp2_with fail
 refine (HS.out).mono ?_
 rintro e w1 ⟨A,cap,rfl,hrow,hcap,hb1⟩
 have HB1:=hide hb1
 have HLN:=hide (lines_any A _ cap ps w1 hrow rfl hcap HL.out.1 HL.out.2)
 clear hrow hcap hb1
 go_wp2_with fail
 refine (HLN.out).mono ?_
 rintro e w2 ⟨v,rfl,hown,hb2⟩
 have HO:=hide (OwnS.low hown HB1.out.size)
 have HB2:=hide (andthen HB1.out hb2)
 clear hown hb2
 go_wp2_with fail
 go_ret
 exact ⟨v,rfl,HO.out,HB2.out⟩
end Go.Proofs.YtfecnkhoojnkbaaGreatDoor

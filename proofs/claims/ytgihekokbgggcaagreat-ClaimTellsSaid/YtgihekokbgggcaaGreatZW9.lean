/- BEvA; BW9 of the recipes, what is needed of them. -/
import Derived.Lib.QuietBelow
import Derived.RegionTactic
import Derived.Maps.AppendAt
import Derived.Laws.OwnMore
import Derived.Test.YtgihekokbgggcaaGreatZW5
import Derived.Test.YtgihekokbgggcaaGreatZBM1
import Derived.Test.YtgihekokbgggcaaGreatZW4
set_option maxHeartbeats 8000000
set_option maxRecDepth 1000000
namespace Go.Proofs.YtgihekokbgggcaaGreat
open Go.RowKit Rul Rt Go.Sort
theorem ebtw_any (a x b : Int) (w : World) :
  Calls Tryz.prog 102 #[.int .i64 a,.int .i64 x,.int .i64 b] w fun e w' => e = .returned (.bool (btw a x b)) /\ w = w':=by
 by_cases h : a <= x
 ·have e:=hide (show btw a x b = decide (x <= b) by simp [btw,h])
  go_enter Tryz.func102,Tryz.ntmps102
  go_wp2_with fail
  go_ret
  exact ⟨ret_bool (by rw [e.out]),rfl⟩
 ·have e:=hide (show btw a x b = false by simp [btw,h])
  have hd : decide (a <= x) = false:=by simpa using h
  go_enter Tryz.func102,Tryz.ntmps102
  go_wp2_with fail
  go_ret
  exact ⟨ret_bool (by rw [e.out]),rfl⟩
theorem ebtw_at (a x b : Int) (c : Bool) (w : World) (h : btw a x b = c) :
  Calls Tryz.prog 102 #[.int .i64 a,.int .i64 x,.int .i64 b] w fun e w' => e = .returned (.bool c) /\ w = w':=by
 subst h; exact ebtw_any a x b w
theorem ybtw_any (a x b : Int) (w : World) :
  Calls Tryz.prog 153 #[.int .u8 a,.int .u8 x,.int .u8 b] w fun e w' => e = .returned (.bool (btw a x b)) /\ w = w':=by
 by_cases h : a <= x
 ·have e:=hide (show btw a x b = decide (x <= b) by simp [btw,h])
  go_enter Tryz.func153,Tryz.ntmps153
  go_wp2_with fail
  go_ret
  exact ⟨ret_bool (by rw [e.out]),rfl⟩
 ·have e:=hide (show btw a x b = false by simp [btw,h])
  have hd : decide (a <= x) = false:=by simpa using h
  go_enter Tryz.func153,Tryz.ntmps153
  go_wp2_with fail
  go_ret
  exact ⟨ret_bool (by rw [e.out]),rfl⟩
theorem ybtw_at (a x b : Int) (c : Bool) (w : World) (h : btw a x b = c) :
  Calls Tryz.prog 153 #[.int .u8 a,.int .u8 x,.int .u8 b] w fun e w' => e = .returned (.bool c) /\ w = w':=by
 subst h; exact ybtw_any a x b w
theorem inUID_any (C : Int) (w : World) :
  Calls Tryz.prog 124 #[.int .u8 C] w fun e w' => e = .returned (.bool (Ev.uidI C)) /\ w = w':=by
 cases h1 : btw 97 C 122
 ·cases h2 : btw 65 C 90
  ·cases h3 : btw 48 C 57
   ·have e:=hide (show Ev.uidI C = (C == 45) by unfold Ev.uidI; rw [h1,h2,h3]; rfl)
    have H1:=hide h1
    have H2:=hide h2
    have H3:=hide h3
    clear h1 h2 h3
    go_enter Tryz.func124,Tryz.ntmps124
    go_wp2_with fail
    refine (ybtw_at _ _ _ _ _ H1.out).mono ?_
    rintro e w' ⟨rfl,rfl⟩
    go_wp2_with fail
    refine (ybtw_at _ _ _ _ _ H2.out).mono ?_
    rintro e w' ⟨rfl,rfl⟩
    go_wp2_with fail
    refine (ybtw_at _ _ _ _ _ H3.out).mono ?_
    rintro e w' ⟨rfl,rfl⟩
    go_wp2_with fail
    go_ret
    exact ⟨ret_bool (by rw [e.out]),rfl⟩
   ·have e:=hide (show Ev.uidI C = true by unfold Ev.uidI; rw [h1,h2,h3]; rfl)
    have H1:=hide h1
    have H2:=hide h2
    have H3:=hide h3
    clear h1 h2 h3
    go_enter Tryz.func124,Tryz.ntmps124
    go_wp2_with fail
    refine (ybtw_at _ _ _ _ _ H1.out).mono ?_
    rintro e w' ⟨rfl,rfl⟩
    go_wp2_with fail
    refine (ybtw_at _ _ _ _ _ H2.out).mono ?_
    rintro e w' ⟨rfl,rfl⟩
    go_wp2_with fail
    refine (ybtw_at _ _ _ _ _ H3.out).mono ?_
    rintro e w' ⟨rfl,rfl⟩
    go_wp2_with fail
    go_ret
    exact ⟨ret_bool (by rw [e.out]),rfl⟩
  ·have e:=hide (show Ev.uidI C = true by unfold Ev.uidI; rw [h1,h2]; rfl)
   have H1:=hide h1
   have H2:=hide h2
   clear h1 h2
   go_enter Tryz.func124,Tryz.ntmps124
   go_wp2_with fail
   refine (ybtw_at _ _ _ _ _ H1.out).mono ?_
   rintro e w' ⟨rfl,rfl⟩
   go_wp2_with fail
   refine (ybtw_at _ _ _ _ _ H2.out).mono ?_
   rintro e w' ⟨rfl,rfl⟩
   go_wp2_with fail
   go_ret
   exact ⟨ret_bool (by rw [e.out]),rfl⟩
 ·have e:=hide (show Ev.uidI C = true by unfold Ev.uidI; rw [h1]; rfl)
  have H1:=hide h1
  clear h1
  go_enter Tryz.func124,Tryz.ntmps124
  go_wp2_with fail
  refine (ybtw_at _ _ _ _ _ H1.out).mono ?_
  rintro e w' ⟨rfl,rfl⟩
  go_wp2_with fail
  go_ret
  exact ⟨ret_bool (by rw [e.out]),rfl⟩
theorem inUID_at (c : UInt8) (b : Bool) (w : World) (h : Ev.uidC c = b) :
  Calls Tryz.prog 124 #[.int .u8 (c.toNat : Int)] w fun e w' => e = .returned (.bool b) /\ w = w':=by
 subst h; exact inUID_any _ w
theorem inText_any (C : Int) (w : World) :
  Calls Tryz.prog 125 #[.int .u8 C] w fun e w' => e = .returned (.bool (Ev.textI C)) /\ w = w':=by
 cases h1 : btw 32 C 126
 ·have e:=hide (show Ev.textI C = (C == 10) by unfold Ev.textI; rw [h1]; rfl)
  have H1:=hide h1
  clear h1
  go_enter Tryz.func125,Tryz.ntmps125
  go_wp2_with fail
  refine (ybtw_at _ _ _ _ _ H1.out).mono ?_
  rintro e w' ⟨rfl,rfl⟩
  go_wp2_with fail
  go_ret
  exact ⟨ret_bool (by rw [e.out]),rfl⟩
 ·have e:=hide (show Ev.textI C = true by unfold Ev.textI; rw [h1]; rfl)
  have H1:=hide h1
  clear h1
  go_enter Tryz.func125,Tryz.ntmps125
  go_wp2_with fail
  refine (ybtw_at _ _ _ _ _ H1.out).mono ?_
  rintro e w' ⟨rfl,rfl⟩
  go_wp2_with fail
  go_ret
  exact ⟨ret_bool (by rw [e.out]),rfl⟩
theorem inText_at (c : UInt8) (b : Bool) (w : World) (h : Ev.textC c = b) :
  Calls Tryz.prog 125 #[.int .u8 (c.toNat : Int)] w fun e w' => e = .returned (.bool b) /\ w = w':=by
 subst h; exact inText_any _ w
theorem byte_listE (s : ByteArray) (k : Nat) (h : k < s.size) (h2 : k < s.data.toList.length) : s.data.toList[k]'h2 = s[k]'h:=by
 simp [ByteArray.getElem_eq_getElem_data]
theorem all_noE {α : Type} (p : α -> Bool) (s : List α) (k : Nat) (h : k < s.length) (hc : p s[k] = false) : s.all p = false:=by
 rw [Bool.eq_false_iff]; intro g
 rw [List.all_eq_true] at g
 have:=g s[k] (List.getElem_mem h)
 rw [hc] at this; cases this
theorem all_moreE {α : Type} (p : α -> Bool) (s : List α) (k : Nat) (h : k < s.length) (hk : (s.take k).all p = true) (hc : p s[k] = true) : (s.take (k + 1)).all p = true:=by
 rw [List.take_succ_eq_append_getElem h,List.all_append,hk,List.all_cons,hc]; rfl
theorem allU_any (s : ByteArray) (w : World) (hs : s.size <= 100000) :
  Calls Tryz.prog 123 #[.func (.func 124) #[] #[],.string s] w fun e w' => e = .returned (.bool (s.data.toList.all Ev.uidC)) /\ w = w':=by
 go_enter Tryz.func123,Tryz.ntmps123
 go_wp2_with fail
 go_loopw [8] (fun i wr => ∃ k : Nat,k <= s.size /\ i = .int .i64 k /\ Hid ((s.data.toList.take k).all Ev.uidC = true) /\ wr = w) (fun i _ => s.size - (intOf i).toNat)
 case atStart => exact ⟨0,Nat.zero_le _,rfl,hide rfl,rfl⟩
 case round =>
  obtain ⟨k,hk,rfl,HA,rfl⟩:=hrel
  by_cases hlt : k < s.size
  ·have hlt1 : (k : Int) < (s.size : Int):=by omega
   have hk0 : (0 : Int) <= (k : Int):=by omega
   obtain ⟨c,hc⟩ : ∃ c,s[k]'hlt = c:=⟨_,rfl⟩
   have hkl : k < s.data.toList.length:=by rw [len_of]; exact hlt
   have hcl : s.data.toList[k] = c:=by rw [byte_listE s k hlt,hc]
   cases hb : Ev.uidC c with
   | true =>
    have HN:=hide (all_moreE Ev.uidC s.data.toList k hkl HA.out (by rw [hcl]; exact hb))
    have HI:=hide (fun w => inUID_at c true w hb)
    clear hb hcl hkl
    go_wp2_with fail
    refine (HI.out _).mono ?_
    rintro e w' ⟨rfl,rfl⟩
    go_wp2_with fail
    go_roundw
    case rel => exact ⟨k + 1,by omega,by go_num,HN,by trivial⟩
    case measure => simp [intOf]; omega
   | false =>
    have HF:=hide (all_noE Ev.uidC s.data.toList k hkl (by rw [hcl]; exact hb))
    have HI:=hide (fun w => inUID_at c false w hb)
    clear hb hcl hkl
    go_wp2_with fail
    refine (HI.out _).mono ?_
    rintro e w' ⟨rfl,rfl⟩
    go_wp2_with fail
    go_ret
    exact ⟨ret_bool HF.out.symm,rfl⟩
  ·obtain rfl : k = s.size:=by omega
   have HF : Hid (s.data.toList.all Ev.uidC = true):=hide (by
    have h:=HA.out
    rw [List.take_of_length_le (by rw [len_of]; omega)] at h
    exact h)
   go_wp2_with fail
   go_ret
   exact ⟨ret_bool HF.out.symm,rfl⟩
theorem allT_any (s : ByteArray) (w : World) (hs : s.size <= 100000) :
  Calls Tryz.prog 123 #[.func (.func 125) #[] #[],.string s] w fun e w' => e = .returned (.bool (s.data.toList.all Ev.textC)) /\ w = w':=by
 go_enter Tryz.func123,Tryz.ntmps123
 go_wp2_with fail
 go_loopw [8] (fun i wr => ∃ k : Nat,k <= s.size /\ i = .int .i64 k /\ Hid ((s.data.toList.take k).all Ev.textC = true) /\ wr = w) (fun i _ => s.size - (intOf i).toNat)
 case atStart => exact ⟨0,Nat.zero_le _,rfl,hide rfl,rfl⟩
 case round =>
  obtain ⟨k,hk,rfl,HA,rfl⟩:=hrel
  by_cases hlt : k < s.size
  ·have hlt1 : (k : Int) < (s.size : Int):=by omega
   have hk0 : (0 : Int) <= (k : Int):=by omega
   obtain ⟨c,hc⟩ : ∃ c,s[k]'hlt = c:=⟨_,rfl⟩
   have hkl : k < s.data.toList.length:=by rw [len_of]; exact hlt
   have hcl : s.data.toList[k] = c:=by rw [byte_listE s k hlt,hc]
   cases hb : Ev.textC c with
   | true =>
    have HN:=hide (all_moreE Ev.textC s.data.toList k hkl HA.out (by rw [hcl]; exact hb))
    have HI:=hide (fun w => inText_at c true w hb)
    clear hb hcl hkl
    go_wp2_with fail
    refine (HI.out _).mono ?_
    rintro e w' ⟨rfl,rfl⟩
    go_wp2_with fail
    go_roundw
    case rel => exact ⟨k + 1,by omega,by go_num,HN,by trivial⟩
    case measure => simp [intOf]; omega
   | false =>
    have HF:=hide (all_noE Ev.textC s.data.toList k hkl (by rw [hcl]; exact hb))
    have HI:=hide (fun w => inText_at c false w hb)
    clear hb hcl hkl
    go_wp2_with fail
    refine (HI.out _).mono ?_
    rintro e w' ⟨rfl,rfl⟩
    go_wp2_with fail
    go_ret
    exact ⟨ret_bool HF.out.symm,rfl⟩
  ·obtain rfl : k = s.size:=by omega
   have HF : Hid (s.data.toList.all Ev.textC = true):=hide (by
    have h:=HA.out
    rw [List.take_of_length_le (by rw [len_of]; omega)] at h
    exact h)
   go_wp2_with fail
   go_ret
   exact ⟨ret_bool HF.out.symm,rfl⟩
theorem isUID_any (s : ByteArray) (w : World) (hs : s.size <= 100000) :
  Calls Tryz.prog 95 #[.string s] w fun e w' => e = .returned (.bool (Ev.uidB s.data.toList)) /\ w = w':=by
 by_cases h : 1 <= s.size /\ s.size <= 12
 ·have E : Hid (Ev.uidB s.data.toList = s.data.toList.all Ev.uidC):=hide (by unfold Ev.uidB; rw [len_of,decide_eq_true h,Bool.true_and])
  have H:=hide (fun w => ebtw_at 1 s.size 12 true w (by rw [btw_iff]; omega))
  have HA:=hide (fun w => allU_any s w hs)
  generalize s.data.toList.all Ev.uidC = B at *
  clear h
  go_enter Tryz.func95,Tryz.ntmps95
  go_wp2_with fail
  refine (H.out _).mono ?_
  rintro e w' ⟨rfl,rfl⟩
  go_wp2_with fail
  refine (HA.out _).mono ?_
  rintro e w' ⟨rfl,rfl⟩
  go_wp2_with fail
  go_ret
  exact ⟨ret_bool (by rw [E.out]),rfl⟩
 ·have E : Hid (Ev.uidB s.data.toList = false):=hide (by unfold Ev.uidB; rw [len_of,decide_eq_false h,Bool.false_and])
  have H:=hide (fun w => ebtw_at 1 s.size 12 false w (by rw [btw_not]; omega))
  clear h
  go_enter Tryz.func95,Tryz.ntmps95
  go_wp2_with fail
  refine (H.out _).mono ?_
  rintro e w' ⟨rfl,rfl⟩
  go_wp2_with fail
  go_ret
  exact ⟨ret_bool (by rw [E.out]),rfl⟩
theorem isUID_at (s : ByteArray) (b : Bool) (w : World) (hs : s.size <= 100000) (h : Ev.uidB s.data.toList = b) :
  Calls Tryz.prog 95 #[.string s] w fun e w' => e = .returned (.bool b) /\ w = w':=by
 subst h; exact isUID_any s w hs
theorem isText_any (s : ByteArray) (w : World) (hs : s.size <= 100000) :
  Calls Tryz.prog 96 #[.string s] w fun e w' => e = .returned (.bool (Ev.textB s.data.toList)) /\ w = w':=by
 by_cases h : s.size <= 40
 ·have E : Hid (Ev.textB s.data.toList = s.data.toList.all Ev.textC):=hide (by unfold Ev.textB; rw [len_of,decide_eq_true h,Bool.true_and])
  have d : decide ((s.size : Int) <= 40) = true:=decide_eq_true (by omega)
  have HA:=hide (fun w => allT_any s w hs)
  generalize s.data.toList.all Ev.textC = B at *
  clear h
  go_enter Tryz.func96,Tryz.ntmps96
  go_wp2_with fail
  refine (HA.out _).mono ?_
  rintro e w' ⟨rfl,rfl⟩
  go_wp2_with fail
  go_ret
  exact ⟨ret_bool (by rw [E.out]),rfl⟩
 ·have E : Hid (Ev.textB s.data.toList = false):=hide (by unfold Ev.textB; rw [len_of,decide_eq_false h,Bool.false_and])
  have d : decide ((s.size : Int) <= 40) = false:=decide_eq_false (by omega)
  clear h
  go_enter Tryz.func96,Tryz.ntmps96
  go_wp2_with fail
  go_ret
  exact ⟨ret_bool (by rw [E.out]),rfl⟩
theorem isText_at (s : ByteArray) (b : Bool) (w : World) (hs : s.size <= 100000) (h : Ev.textB s.data.toList = b) :
  Calls Tryz.prog 96 #[.string s] w fun e w' => e = .returned (.bool b) /\ w = w':=by
 subst h; exact isText_any s w hs
theorem isLong_any (n : Int) (w : World) :
  Calls Tryz.prog 98 #[.int .i64 n] w fun e w' => e = .returned (.bool (Ev.lgB n)) /\ w = w':=by
 have H:=hide (fun w => ebtw_at 1 n 10080 (Ev.lgB n) w rfl)
 go_enter Tryz.func98,Tryz.ntmps98
 go_wp2_with fail
 refine (H.out _).mono ?_
 rintro e w' ⟨rfl,rfl⟩
 go_wp2_with fail
 go_ret
 exact ⟨rfl,rfl⟩
theorem isRoom_any (n : Int) (w : World) :
  Calls Tryz.prog 104 #[.int .i64 n] w (Ans w (.bool (Ev.roomB n))):=by
 have H:=hide (fun w => ebtw_at 0 n 7 (Ev.roomB n) w rfl)
 go_enter Tryz.func104,Tryz.ntmps104
 go_wp2_with fail
 refine (H.out _).mono ?_
 rintro e w' ⟨rfl,rfl⟩
 go_wp2_with fail
 go_ret
 exact ⟨rfl,start _⟩
theorem isMinute_any (n : Int) (w : World) :
  Calls Tryz.prog 97 #[.int .i64 n] w (Ans w (.bool (Ev.minB n))):=by
 by_cases h : 0 <= n /\ n < 52596000
 ·have E : Hid (Ev.minB n = true):=hide ((Ev.minB_iff n).2 h)
  have H:=hide (fun w => Clock_yes n w h.1 h.2)
  clear h
  go_enter Tryz.func97,Tryz.ntmps97
  go_wp2_with fail
  refine (H.out _).mono ?_
  rintro e w1 ⟨rfl,hb⟩
  have HB:=hide (more hb (.cells #[.int .i64 (Cal.yOf (n / 1440)),.int .i64 (Cal.mOf (n / 1440)),.int .i64 (Cal.dOf (n / 1440))] 110))
  clear hb
  go_wp2_with fail
  go_ret
  exact ⟨ret_bool (by rw [E.out]),by first | exact HB.out | skip⟩
 ·have E : Hid (Ev.minB n = false):=hide (by rw [<- Bool.not_eq_true,Ev.minB_iff]; exact h)
  have H:=hide (fun w => Clock_no n w (by omega))
  clear h
  go_enter Tryz.func97,Tryz.ntmps97
  go_wp2_with fail
  refine (H.out _).mono ?_
  rintro e w1 ⟨rfl,hb⟩
  have HB:=hide (more hb (.cells #[.int .i64 0,.int .i64 0,.int .i64 0] 110))
  clear hb
  go_wp2_with fail
  go_ret
  exact ⟨ret_bool (by rw [E.out]),by first | exact HB.out | skip⟩
theorem isRoom_at (n : Int) (b : Bool) (w : World) (h : Ev.roomB n = b) : Calls Tryz.prog 104 #[.int .i64 n] w (Ans w (.bool b)):=by subst h; exact isRoom_any n w
theorem ascR_any (A : Option Addr) (n c : Nat) (l : List Int) (w : World) (hl : RowI w A l) (hn : n = l.length) (hsz : l.length <= 100000) :
  Calls Tryz.prog 103 #[.func (.func 104) #[] #[],.slice A n c] w (Ans w (.bool (ascB Ev.roomB inLt 0 l))):=by
 subst hn
 by_cases hnil : l = []
 ·subst hnil
  go_enter Tryz.func103,Tryz.ntmps103
  go_wp2_with fail
  refine wp_loop_rounds 1 ?_
  rw [rounds_succ]
  go_wp2_with fail
  go_ret
  exact ⟨rfl,start _⟩
 ·obtain ⟨b1,o1,rfl,hb1,hc1⟩:=hl hnil
  have HC1:=hide hc1
  clear hl hc1 hnil
  go_enter Tryz.func103,Tryz.ntmps103
  go_wp2_with fail
  go_loopw [9] (fun i wr => ∃ j : Nat,j <= l.length /\ i = .int .i64 j /\ (∀ i,i < j -> stepB Ev.roomB inLt 0 l i = true) /\ Below w.heap.size w wr) (fun i _ => l.length - (intOf i).toNat)
  case atStart => exact ⟨0,Nat.zero_le _,rfl,fun i h => absurd h (Nat.not_lt_zero _),start _⟩
  case round =>
   obtain ⟨j,hj,rfl,heq,hbw⟩:=hrel
   have HE:=hide heq
   clear heq
   by_cases hlt : j < l.length
   ·have hi0 : (0 : Int) <= (j : Int):=by omega
    have hi1 : (j : Int) < (l.length : Int):=by omega
    cases hq : Ev.roomB l[j]
    ·have p1 : wr.cell? ⟨b1,o1 + j,none⟩ = some (.int .i64 l[j]):=(hbw.cell (p:=⟨b1,_,none⟩) hb1).trans (by first | exact HC1.out j hlt | simpa using HC1.out j hlt)
     have HN:=hide (ascB_no Ev.roomB inLt 0 l j hlt (stepB_p _ _ _ _ _ hlt hq))
     have HQ:=hide (fun w => isRoom_at l[j] false w hq)
     clear hq
     go_wp2_with fail
     refine (HQ.out _).mono ?_
     rintro e w1 ⟨rfl,hb2⟩
     replace hbw:=hbw.trans (hb2.mono hbw.size)
     clear hb2
     go_wp2_with fail
     go_ret
     exact ⟨ret_bool (by rw [HN.out]),hbw⟩
    ·have HQ:=hide (fun w => isRoom_at l[j] true w hq)
     rcases Nat.eq_zero_or_pos j with hz | hz
     ·subst hz
      have p1 : wr.cell? ⟨b1,o1,none⟩ = some (.int .i64 l[0]):=(hbw.cell (p:=⟨b1,_,none⟩) hb1).trans (by first | exact HC1.out 0 hlt | simpa using HC1.out 0 hlt)
      have HN:=hide (all_step Ev.roomB inLt 0 l 0 HE.out (by rw [stepB_0 _ _ _ _ hlt]; exact hq))
      clear hq
      have g0 : ¬ (0 : Int) < ((0 : Nat) : Int):=by omega
      have g1 : decide ((0 : Int) < ((0 : Nat) : Int)) = false:=rfl
      go_wp2_with fail
      refine (HQ.out _).mono ?_
      rintro e w1 ⟨rfl,hb2⟩
      replace hbw:=hbw.trans (hb2.mono hbw.size)
      clear hb2
      go_wp2_with fail
      go_roundw
      case rel => exact ⟨1,by omega,by go_num,HN.out,hbw⟩
      case measure => simp [intOf]; omega
     ·obtain ⟨m,rfl⟩ : ∃ m,j = m + 1:=⟨j - 1,by omega⟩
      have hlm : m < l.length:=Nat.lt_of_succ_lt hlt
      have p1 : wr.cell? ⟨b1,o1 + (m + 1),none⟩ = some (.int .i64 l[(m + 1)]):=(hbw.cell (p:=⟨b1,_,none⟩) hb1).trans (by first | exact HC1.out (m + 1) hlt | simpa using HC1.out (m + 1) hlt)
      have p0 : wr.cell? ⟨b1,o1 + m,none⟩ = some (.int .i64 l[m]):=(hbw.cell (p:=⟨b1,_,none⟩) hb1).trans (by first | exact HC1.out m hlm | simpa using HC1.out m hlm)
      have g0 : (0 : Int) < ((m + 1 : Nat) : Int):=by omega
      have g1 : decide ((0 : Int) < ((m + 1 : Nat) : Int)) = true:=decide_eq_true g0
      have g2 : ((m + 1 : Nat) : Int) - 1 = (m : Int):=by omega
      have g3 : (0 : Int) <= (m : Int):=by omega
      have g4 : (m : Int) < (l.length : Int):=by omega
      have hs:=stepB_succ Ev.roomB inLt 0 l m hlt
      rw [hq,Bool.true_and] at hs
      clear hq
      cases hc : inLt l[m] l[m + 1]
      ·have hd : decide (l[m + 1] <= l[m]) = true:=by unfold inLt at hc; rw [decide_eq_false_iff_not] at hc; exact decide_eq_true (by omega)
       have hd2 : l[m + 1] <= l[m]:=of_decide_eq_true hd
       have HN:=hide (ascB_no Ev.roomB inLt 0 l (m + 1) hlt (by rw [hs,hc]))
       clear hs hc
       go_wp2_with fail
       refine (HQ.out _).mono ?_
       rintro e w1 ⟨rfl,hb2⟩
       replace hbw:=hbw.trans (hb2.mono hbw.size)
       have q0:=cell_keep hb2 p0
       clear hb2
       go_wp2_with fail
       go_ret
       exact ⟨ret_bool (by rw [HN.out]),hbw⟩
      ·have hd : decide (l[m + 1] <= l[m]) = false:=by unfold inLt at hc; rw [decide_eq_true_eq] at hc; exact decide_eq_false (by omega)
       have hd2 : ¬ l[m + 1] <= l[m]:=of_decide_eq_false hd
       have HN:=hide (all_step Ev.roomB inLt 0 l (m + 1) HE.out (by rw [hs,hc]))
       clear hs hc
       go_wp2_with fail
       refine (HQ.out _).mono ?_
       rintro e w1 ⟨rfl,hb2⟩
       replace hbw:=hbw.trans (hb2.mono hbw.size)
       have q0:=cell_keep hb2 p0
       clear hb2
       go_wp2_with fail
       go_roundw
       case rel => exact ⟨m + 1 + 1,by omega,by go_num,HN.out,hbw⟩
       case measure => simp [intOf]; omega
   ·obtain rfl : j = l.length:=by omega
    have HF:=hide ((ascB_iff Ev.roomB inLt 0 l).2 HE.out)
    go_wp2_with fail
    go_ret
    exact ⟨ret_bool (by rw [HF.out]),hbw⟩
theorem isMinute_at (n : Int) (b : Bool) (w : World) (h : Ev.minB n = b) : Calls Tryz.prog 97 #[.int .i64 n] w (Ans w (.bool b)):=by subst h; exact isMinute_any n w
theorem ascM_any (A : Option Addr) (n c : Nat) (l : List Int) (w : World) (hl : RowI w A l) (hn : n = l.length) (hsz : l.length <= 100000) :
  Calls Tryz.prog 103 #[.func (.func 97) #[] #[],.slice A n c] w (Ans w (.bool (ascB Ev.minB inLt 0 l))):=by
 subst hn
 by_cases hnil : l = []
 ·subst hnil
  go_enter Tryz.func103,Tryz.ntmps103
  go_wp2_with fail
  refine wp_loop_rounds 1 ?_
  rw [rounds_succ]
  go_wp2_with fail
  go_ret
  exact ⟨rfl,start _⟩
 ·obtain ⟨b1,o1,rfl,hb1,hc1⟩:=hl hnil
  have HC1:=hide hc1
  clear hl hc1 hnil
  go_enter Tryz.func103,Tryz.ntmps103
  go_wp2_with fail
  go_loopw [9] (fun i wr => ∃ j : Nat,j <= l.length /\ i = .int .i64 j /\ (∀ i,i < j -> stepB Ev.minB inLt 0 l i = true) /\ Below w.heap.size w wr) (fun i _ => l.length - (intOf i).toNat)
  case atStart => exact ⟨0,Nat.zero_le _,rfl,fun i h => absurd h (Nat.not_lt_zero _),start _⟩
  case round =>
   obtain ⟨j,hj,rfl,heq,hbw⟩:=hrel
   have HE:=hide heq
   clear heq
   by_cases hlt : j < l.length
   ·have hi0 : (0 : Int) <= (j : Int):=by omega
    have hi1 : (j : Int) < (l.length : Int):=by omega
    cases hq : Ev.minB l[j]
    ·have p1 : wr.cell? ⟨b1,o1 + j,none⟩ = some (.int .i64 l[j]):=(hbw.cell (p:=⟨b1,_,none⟩) hb1).trans (by first | exact HC1.out j hlt | simpa using HC1.out j hlt)
     have HN:=hide (ascB_no Ev.minB inLt 0 l j hlt (stepB_p _ _ _ _ _ hlt hq))
     have HQ:=hide (fun w => isMinute_at l[j] false w hq)
     clear hq
     go_wp2_with fail
     refine (HQ.out _).mono ?_
     rintro e w1 ⟨rfl,hb2⟩
     replace hbw:=hbw.trans (hb2.mono hbw.size)
     clear hb2
     go_wp2_with fail
     go_ret
     exact ⟨ret_bool (by rw [HN.out]),hbw⟩
    ·have HQ:=hide (fun w => isMinute_at l[j] true w hq)
     rcases Nat.eq_zero_or_pos j with hz | hz
     ·subst hz
      have p1 : wr.cell? ⟨b1,o1,none⟩ = some (.int .i64 l[0]):=(hbw.cell (p:=⟨b1,_,none⟩) hb1).trans (by first | exact HC1.out 0 hlt | simpa using HC1.out 0 hlt)
      have HN:=hide (all_step Ev.minB inLt 0 l 0 HE.out (by rw [stepB_0 _ _ _ _ hlt]; exact hq))
      clear hq
      have g0 : ¬ (0 : Int) < ((0 : Nat) : Int):=by omega
      have g1 : decide ((0 : Int) < ((0 : Nat) : Int)) = false:=rfl
      go_wp2_with fail
      refine (HQ.out _).mono ?_
      rintro e w1 ⟨rfl,hb2⟩
      replace hbw:=hbw.trans (hb2.mono hbw.size)
      clear hb2
      go_wp2_with fail
      go_roundw
      case rel => exact ⟨1,by omega,by go_num,HN.out,hbw⟩
      case measure => simp [intOf]; omega
     ·obtain ⟨m,rfl⟩ : ∃ m,j = m + 1:=⟨j - 1,by omega⟩
      have hlm : m < l.length:=Nat.lt_of_succ_lt hlt
      have p1 : wr.cell? ⟨b1,o1 + (m + 1),none⟩ = some (.int .i64 l[(m + 1)]):=(hbw.cell (p:=⟨b1,_,none⟩) hb1).trans (by first | exact HC1.out (m + 1) hlt | simpa using HC1.out (m + 1) hlt)
      have p0 : wr.cell? ⟨b1,o1 + m,none⟩ = some (.int .i64 l[m]):=(hbw.cell (p:=⟨b1,_,none⟩) hb1).trans (by first | exact HC1.out m hlm | simpa using HC1.out m hlm)
      have g0 : (0 : Int) < ((m + 1 : Nat) : Int):=by omega
      have g1 : decide ((0 : Int) < ((m + 1 : Nat) : Int)) = true:=decide_eq_true g0
      have g2 : ((m + 1 : Nat) : Int) - 1 = (m : Int):=by omega
      have g3 : (0 : Int) <= (m : Int):=by omega
      have g4 : (m : Int) < (l.length : Int):=by omega
      have hs:=stepB_succ Ev.minB inLt 0 l m hlt
      rw [hq,Bool.true_and] at hs
      clear hq
      cases hc : inLt l[m] l[m + 1]
      ·have hd : decide (l[m + 1] <= l[m]) = true:=by unfold inLt at hc; rw [decide_eq_false_iff_not] at hc; exact decide_eq_true (by omega)
       have hd2 : l[m + 1] <= l[m]:=of_decide_eq_true hd
       have HN:=hide (ascB_no Ev.minB inLt 0 l (m + 1) hlt (by rw [hs,hc]))
       clear hs hc
       go_wp2_with fail
       refine (HQ.out _).mono ?_
       rintro e w1 ⟨rfl,hb2⟩
       replace hbw:=hbw.trans (hb2.mono hbw.size)
       have q0:=cell_keep hb2 p0
       clear hb2
       go_wp2_with fail
       go_ret
       exact ⟨ret_bool (by rw [HN.out]),hbw⟩
      ·have hd : decide (l[m + 1] <= l[m]) = false:=by unfold inLt at hc; rw [decide_eq_true_eq] at hc; exact decide_eq_false (by omega)
       have hd2 : ¬ l[m + 1] <= l[m]:=of_decide_eq_false hd
       have HN:=hide (all_step Ev.minB inLt 0 l (m + 1) HE.out (by rw [hs,hc]))
       clear hs hc
       go_wp2_with fail
       refine (HQ.out _).mono ?_
       rintro e w1 ⟨rfl,hb2⟩
       replace hbw:=hbw.trans (hb2.mono hbw.size)
       have q0:=cell_keep hb2 p0
       clear hb2
       go_wp2_with fail
       go_roundw
       case rel => exact ⟨m + 1 + 1,by omega,by go_num,HN.out,hbw⟩
       case measure => simp [intOf]; omega
   ·obtain rfl : j = l.length:=by omega
    have HF:=hide ((ascB_iff Ev.minB inLt 0 l).2 HE.out)
    go_wp2_with fail
    go_ret
    exact ⟨ret_bool (by rw [HF.out]),hbw⟩
theorem areRooms_any (A : Option Addr) (n c : Nat) (l : List Int) (w : World) (hl : RowI w A l) (hn : n = l.length) (hsz : l.length <= 100000) :
  Calls Tryz.prog 82 #[.slice A n c] w (Ans w (.bool (Ev.roomsB l))):=by
 subst hn
 by_cases h : 1 <= l.length /\ l.length <= 4
 ·have E : Hid (Ev.roomsB l = ascB Ev.roomB inLt 0 l):=hide (by unfold Ev.roomsB; rw [decide_eq_true h,Bool.true_and])
  have H:=hide (fun w => ebtw_at 1 l.length 4 true w (by rw [btw_iff]; omega))
  have HA:=hide (fun w hl => ascR_any A _ c l w hl rfl hsz)
  have HL:=hide hl
  clear h hl
  go_enter Tryz.func82,Tryz.ntmps82
  go_wp2_with fail
  refine (H.out _).mono ?_
  rintro e w' ⟨rfl,rfl⟩
  go_wp2_with fail
  refine (HA.out _ HL.out).mono ?_
  rintro e w' ⟨rfl,hb⟩
  go_wp2_with fail
  go_ret
  exact ⟨ret_bool (by rw [E.out]),hb⟩
 ·have E : Hid (Ev.roomsB l = false):=hide (by unfold Ev.roomsB; rw [decide_eq_false h,Bool.false_and])
  have H:=hide (fun w => ebtw_at 1 l.length 4 false w (by rw [btw_not]; omega))
  clear h hl
  go_enter Tryz.func82,Tryz.ntmps82
  go_wp2_with fail
  refine (H.out _).mono ?_
  rintro e w' ⟨rfl,rfl⟩
  go_wp2_with fail
  go_ret
  exact ⟨ret_bool (by rw [E.out]),start _⟩
theorem areExcept_any (A : Option Addr) (n c : Nat) (l : List Int) (w : World) (hl : RowI w A l) (hn : n = l.length) (hsz : l.length <= 100000) :
  Calls Tryz.prog 99 #[.slice A n c] w (Ans w (.bool (Ev.exB l))):=by
 subst hn
 by_cases h : l.length <= 12
 ·have E : Hid (Ev.exB l = ascB Ev.minB inLt 0 l):=hide (by unfold Ev.exB listB; rw [decide_eq_true h,Bool.true_and])
  have d : decide ((l.length : Int) <= 12) = true:=decide_eq_true (by omega)
  have HA:=hide (fun w hl => ascM_any A _ c l w hl rfl hsz)
  have HL:=hide hl
  clear h hl
  go_enter Tryz.func99,Tryz.ntmps99
  go_wp2_with fail
  refine (HA.out _ HL.out).mono ?_
  rintro e w' ⟨rfl,hb⟩
  go_wp2_with fail
  go_ret
  exact ⟨ret_bool (by rw [E.out]),hb⟩
 ·have E : Hid (Ev.exB l = false):=hide (by unfold Ev.exB listB; rw [decide_eq_false h,Bool.false_and])
  have d : decide ((l.length : Int) <= 12) = false:=decide_eq_false (by omega)
  clear h hl
  go_enter Tryz.func99,Tryz.ntmps99
  go_wp2_with fail
  go_ret
  exact ⟨ret_bool (by rw [E.out]),start _⟩
theorem areExcept_at (A : Option Addr) (n c : Nat) (l : List Int) (b : Bool) (w : World) (hl : RowI w A l) (hn : n = l.length) (hsz : l.length <= 100000) (h : Ev.exB l = b) :
  Calls Tryz.prog 99 #[.slice A n c] w (Ans w (.bool b)):=by subst h; exact areExcept_any A n c l w hl hn hsz
structure Mem where
 O : Option Addr
 oc : Nat
 D : Option Addr
 dc : Nat
 M : Option Addr
 mc : Nat
 Y : Option Addr
 yc : Nat
 X : Option Addr
 xc : Nat
abbrev evV (e : Ev.E) (m : Mem) : Value:=.agg #[.string (str e.uid),.string (str e.text),.int .i64 e.st,.int .i64 e.lg,.slice m.O e.rooms.length m.oc,.int .i64 e.r.fr,.int .i64 e.r.ev,.int .i64 e.r.ct,.int .i64 e.r.un,.slice m.D e.r.ds.length m.dc,.slice m.M e.r.ms.length m.mc,.slice m.Y e.r.ys.length m.yc,.slice m.X e.ex.length m.xc]
abbrev paV (e : Ev.E) (m : Mem) : Value:=.agg #[.string (str e.uid),.string (str e.text),.int .i64 e.st,.int .i64 e.lg,.int .i64 e.r.fr,.int .i64 e.r.ev,.int .i64 e.r.ct,.int .i64 e.r.un,.slice m.D e.r.ds.length m.dc,.slice m.M e.r.ms.length m.mc,.slice m.Y e.r.ys.length m.yc,.slice m.X e.ex.length m.xc,.slice m.O e.rooms.length m.oc]
structure EvL (w : World) (e : Ev.E) (m : Mem) : Prop where
 o : RowI w m.O e.rooms
 ol : e.rooms.length <= 1000
 r : Lies w m.D e.r.ds.length m.M e.r.ms.length m.Y e.r.ys.length e.r.ds e.r.ms e.r.ys
 x : RowI w m.X e.ex
 xl : e.ex.length <= 1000
 ul : e.uid.length <= 40000
 tl : e.text.length <= 40000
theorem EvL.keep {w w' : World} {e : Ev.E} {m : Mem} (h : EvL w e m) (hb : Below w.heap.size w w') : EvL w' e m :=
 ⟨h.o.keep hb,h.ol,h.r.keep hb,h.x.keep hb,h.xl,h.ul,h.tl⟩
theorem cell_new (w : World) (vs : Array Value) (t : TypeId) (i : Nat) (v : Value) (h : vs[i]? = some v) : (w.alloc (.cells vs t)).cell? ⟨w.heap.size,i,none⟩ = some v:=by rw [World.cell?_alloc_at _ _ _ _ rfl]; exact h
theorem isLong_at (n : Int) (b : Bool) (w : World) (h : Ev.lgB n = b) : Calls Tryz.prog 98 #[.int .i64 n] w (Ans w (.bool b)):=by subst h; exact ans_same (isLong_any n w)
theorem isUID_t (u : Tx) (b : Bool) (w : World) (hs : u.length <= 40000) (h : Ev.uidB u = b) : Calls Tryz.prog 95 #[.string (str u)] w (Ans w (.bool b)):=ans_same (isUID_at (str u) b w (by rw [str_size]; omega) (by rw [str_list]; exact h))
theorem isText_t (u : Tx) (b : Bool) (w : World) (hs : u.length <= 40000) (h : Ev.textB u = b) : Calls Tryz.prog 96 #[.string (str u)] w (Ans w (.bool b)):=ans_same (isText_at (str u) b w (by rw [str_size]; omega) (by rw [str_list]; exact h))
theorem words_any (u t : Tx) (w : World) (hu : u.length <= 40000) (ht : t.length <= 40000) :
  Calls Tryz.prog 80 #[.agg #[.string (str u),.string (str t)]] w (Ans w (.bool (Ev.uidB u && Ev.textB t))):=by
 have HBX:=hide (more (start w) (.cells #[.string (str u),.string (str t)] 89))
 have s1:=cell_new w #[.string (str u),.string (str t)] 89 1 _ rfl
 cases h1 : Ev.uidB u
 ·have H1:=hide (fun w => isUID_t u false w hu h1)
  clear h1 s1
  generalize str u = U at *
  generalize str t = T at *
  go_enter Tryz.func80,Tryz.ntmps80
  go_wp2_with fail
  refine (H1.out _).mono ?_
  rintro e w1 ⟨rfl,hb⟩
  replace HBX:=hide (andthen HBX.out hb)
  go_wp2_with fail
  go_ret
  exact ⟨rfl,HBX.out⟩
 ·have H1:=hide (fun w => isUID_t u true w hu h1)
  have H2:=hide (fun w => isText_t t _ w ht rfl)
  rw [Bool.true_and]
  generalize Ev.textB t = B at *
  clear h1
  generalize str u = U at *
  generalize str t = T at *
  go_enter Tryz.func80,Tryz.ntmps80
  go_wp2_with fail
  refine (H1.out _).mono ?_
  rintro e w1 ⟨rfl,hb⟩
  replace HBX:=hide (andthen HBX.out hb)
  replace s1:=cell_keep hb s1
  clear hb
  go_wp2_with fail
  refine (H2.out _).mono ?_
  rintro e w2 ⟨rfl,hb⟩
  replace HBX:=hide (andthen HBX.out hb)
  clear hb
  go_wp2_with fail
  go_ret
  exact ⟨rfl,HBX.out⟩
theorem times_any (e : Ev.E) (m : Mem) (w : World) (h : EvL w e m) :
  Calls Tryz.prog 81 #[.agg #[.int .i64 e.st,.int .i64 e.lg,.int .i64 e.r.fr,.int .i64 e.r.ev,.int .i64 e.r.ct,.int .i64 e.r.un,.slice m.D e.r.ds.length m.dc,.slice m.M e.r.ms.length m.mc,.slice m.Y e.r.ys.length m.yc,.slice m.X e.ex.length m.xc]] w (Ans w (.bool (Ev.timesB e))):=by
 have h1 : Ev.timesB e = (Ev.minB e.st && (Ev.lgB e.lg && (isB e.r && (Ev.exB e.ex && (decide (e.ex.length = 0) || !sameB e.r once))))):=rfl
 rw [h1]
 clear h1
 have hr:=h.r
 have hx:=h.x
 have hxl:=h.xl
 clear h
 obtain ⟨_,_,s,l,_,⟨fr,ev,ct,un,ds,ms,ys⟩,x⟩:=e
 obtain ⟨_,_,D,dc,M,mc,Y,yc,X,xc⟩:=m
 simp only at hr hx hxl ⊢
 have HBX:=hide (more (start w) (.cells #[.int .i64 s,.int .i64 l,.int .i64 fr,.int .i64 ev,.int .i64 ct,.int .i64 un,.slice D ds.length dc,.slice M ms.length mc,.slice Y ys.length yc,.slice X x.length xc] 91))
 have HR:=hide (hr.keep HBX.out)
 have HX:=hide (hx.keep HBX.out)
 clear hr hx
 have s0:=cell_new w #[.int .i64 s,.int .i64 l,.int .i64 fr,.int .i64 ev,.int .i64 ct,.int .i64 un,.slice D ds.length dc,.slice M ms.length mc,.slice Y ys.length yc,.slice X x.length xc] 91 0 _ rfl
 have s1:=cell_new w #[.int .i64 s,.int .i64 l,.int .i64 fr,.int .i64 ev,.int .i64 ct,.int .i64 un,.slice D ds.length dc,.slice M ms.length mc,.slice Y ys.length yc,.slice X x.length xc] 91 1 _ rfl
 have s2:=cell_new w #[.int .i64 s,.int .i64 l,.int .i64 fr,.int .i64 ev,.int .i64 ct,.int .i64 un,.slice D ds.length dc,.slice M ms.length mc,.slice Y ys.length yc,.slice X x.length xc] 91 2 _ rfl
 have s3:=cell_new w #[.int .i64 s,.int .i64 l,.int .i64 fr,.int .i64 ev,.int .i64 ct,.int .i64 un,.slice D ds.length dc,.slice M ms.length mc,.slice Y ys.length yc,.slice X x.length xc] 91 3 _ rfl
 have s4:=cell_new w #[.int .i64 s,.int .i64 l,.int .i64 fr,.int .i64 ev,.int .i64 ct,.int .i64 un,.slice D ds.length dc,.slice M ms.length mc,.slice Y ys.length yc,.slice X x.length xc] 91 4 _ rfl
 have s5:=cell_new w #[.int .i64 s,.int .i64 l,.int .i64 fr,.int .i64 ev,.int .i64 ct,.int .i64 un,.slice D ds.length dc,.slice M ms.length mc,.slice Y ys.length yc,.slice X x.length xc] 91 5 _ rfl
 have s6:=cell_new w #[.int .i64 s,.int .i64 l,.int .i64 fr,.int .i64 ev,.int .i64 ct,.int .i64 un,.slice D ds.length dc,.slice M ms.length mc,.slice Y ys.length yc,.slice X x.length xc] 91 6 _ rfl
 have s7:=cell_new w #[.int .i64 s,.int .i64 l,.int .i64 fr,.int .i64 ev,.int .i64 ct,.int .i64 un,.slice D ds.length dc,.slice M ms.length mc,.slice Y ys.length yc,.slice X x.length xc] 91 7 _ rfl
 have s8:=cell_new w #[.int .i64 s,.int .i64 l,.int .i64 fr,.int .i64 ev,.int .i64 ct,.int .i64 un,.slice D ds.length dc,.slice M ms.length mc,.slice Y ys.length yc,.slice X x.length xc] 91 8 _ rfl
 have s9:=cell_new w #[.int .i64 s,.int .i64 l,.int .i64 fr,.int .i64 ev,.int .i64 ct,.int .i64 un,.slice D ds.length dc,.slice M ms.length mc,.slice Y ys.length yc,.slice X x.length xc] 91 9 _ rfl
 cases h1 : Ev.minB s
 ·simp only [Bool.false_and]
  have H1:=hide h1
  clear h1
  go_enter Tryz.func81,Tryz.ntmps81
  go_wp2_with fail
  generalize w.alloc (.cells #[.int .i64 s,.int .i64 l,.int .i64 fr,.int .i64 ev,.int .i64 ct,.int .i64 un,.slice D ds.length dc,.slice M ms.length mc,.slice Y ys.length yc,.slice X x.length xc] 91) = W at *
  have f0:=fun d os => cell_regrown s0 d os
  have f1:=fun d os => cell_regrown s1 d os
  have f2:=fun d os => cell_regrown s2 d os
  have f3:=fun d os => cell_regrown s3 d os
  have f4:=fun d os => cell_regrown s4 d os
  have f5:=fun d os => cell_regrown s5 d os
  have f6:=fun d os => cell_regrown s6 d os
  have f7:=fun d os => cell_regrown s7 d os
  have f8:=fun d os => cell_regrown s8 d os
  have f9:=fun d os => cell_regrown s9 d os
  have L1:=hide (fun d os => Lies.keep HR.out (below_regrown W d os))
  have L2:=hide (fun d os => RowI.keep HX.out (below_regrown W d os))
  clear HR HX s0 s1 s2 s3 s4 s5 s6 s7 s8 s9
  refine wp_region_quiet_below (by kernel_rfl) (by kernel_rfl) ?_
  repeat (first | go_big_quiet_step ((first | (go_at_call 97; exact Calls.regrown_of (isMinute_at s false _ H1.out)))) | quiet_step ((first | (go_at_call 97; exact Calls.regrown_of (isMinute_at s false _ H1.out)))))
  refine wpQuiet_nil ?_
  intro _ hw'
  obtain ⟨⟨nq,osq⟩,hw''⟩:=hw'
  subst hw''
  replace HBX:=hide (andthen HBX.out (below_regrown W nq osq))
  go_wp2_with fail
  go_ret
  exact ⟨rfl,HBX.out⟩
 ·cases h2 : Ev.lgB l
  ·simp only [Bool.true_and,Bool.false_and]
   have H1:=hide h1
   have H2:=hide h2
   clear h1 h2
   go_enter Tryz.func81,Tryz.ntmps81
   go_wp2_with fail
   generalize w.alloc (.cells #[.int .i64 s,.int .i64 l,.int .i64 fr,.int .i64 ev,.int .i64 ct,.int .i64 un,.slice D ds.length dc,.slice M ms.length mc,.slice Y ys.length yc,.slice X x.length xc] 91) = W at *
   have f0:=fun d os => cell_regrown s0 d os
   have f1:=fun d os => cell_regrown s1 d os
   have f2:=fun d os => cell_regrown s2 d os
   have f3:=fun d os => cell_regrown s3 d os
   have f4:=fun d os => cell_regrown s4 d os
   have f5:=fun d os => cell_regrown s5 d os
   have f6:=fun d os => cell_regrown s6 d os
   have f7:=fun d os => cell_regrown s7 d os
   have f8:=fun d os => cell_regrown s8 d os
   have f9:=fun d os => cell_regrown s9 d os
   have L1:=hide (fun d os => Lies.keep HR.out (below_regrown W d os))
   have L2:=hide (fun d os => RowI.keep HX.out (below_regrown W d os))
   clear HR HX s0 s1 s2 s3 s4 s5 s6 s7 s8 s9
   refine wp_region_quiet_below (by kernel_rfl) (by kernel_rfl) ?_
   repeat (first | go_big_quiet_step ((first | (go_at_call 97; exact Calls.regrown_of (isMinute_at s true _ H1.out)) | (go_at_call 98; exact Calls.regrown_of (isLong_at l false _ H2.out)))) | quiet_step ((first | (go_at_call 97; exact Calls.regrown_of (isMinute_at s true _ H1.out)) | (go_at_call 98; exact Calls.regrown_of (isLong_at l false _ H2.out)))))
   refine wpQuiet_nil ?_
   intro _ hw'
   obtain ⟨⟨nq,osq⟩,hw''⟩:=hw'
   subst hw''
   replace HBX:=hide (andthen HBX.out (below_regrown W nq osq))
   go_wp2_with fail
   go_ret
   exact ⟨rfl,HBX.out⟩
  ·cases h3 : isB ⟨fr,ev,ct,un,ds,ms,ys⟩
   ·simp only [Bool.true_and,Bool.false_and]
    have H1:=hide h1
    have H2:=hide h2
    have H3:=hide h3
    clear h1 h2 h3
    go_enter Tryz.func81,Tryz.ntmps81
    go_wp2_with fail
    generalize w.alloc (.cells #[.int .i64 s,.int .i64 l,.int .i64 fr,.int .i64 ev,.int .i64 ct,.int .i64 un,.slice D ds.length dc,.slice M ms.length mc,.slice Y ys.length yc,.slice X x.length xc] 91) = W at *
    have f0:=fun d os => cell_regrown s0 d os
    have f1:=fun d os => cell_regrown s1 d os
    have f2:=fun d os => cell_regrown s2 d os
    have f3:=fun d os => cell_regrown s3 d os
    have f4:=fun d os => cell_regrown s4 d os
    have f5:=fun d os => cell_regrown s5 d os
    have f6:=fun d os => cell_regrown s6 d os
    have f7:=fun d os => cell_regrown s7 d os
    have f8:=fun d os => cell_regrown s8 d os
    have f9:=fun d os => cell_regrown s9 d os
    have L1:=hide (fun d os => Lies.keep HR.out (below_regrown W d os))
    have L2:=hide (fun d os => RowI.keep HX.out (below_regrown W d os))
    clear HR HX s0 s1 s2 s3 s4 s5 s6 s7 s8 s9
    refine wp_region_quiet_below (by kernel_rfl) (by kernel_rfl) ?_
    repeat (first | go_big_quiet_step ((first | (go_at_call 97; exact Calls.regrown_of (isMinute_at s true _ H1.out)) | (go_at_call 98; exact Calls.regrown_of (isLong_at l true _ H2.out)) | (go_at_call 83; exact Calls.regrown_of (ans_is (ruleIs_any fr ev ct un D M Y _ dc _ mc _ yc ds ms ys _ (L1.out _ _)) H3.out)))) | quiet_step ((first | (go_at_call 97; exact Calls.regrown_of (isMinute_at s true _ H1.out)) | (go_at_call 98; exact Calls.regrown_of (isLong_at l true _ H2.out)) | (go_at_call 83; exact Calls.regrown_of (ans_is (ruleIs_any fr ev ct un D M Y _ dc _ mc _ yc ds ms ys _ (L1.out _ _)) H3.out)))))
    refine wpQuiet_nil ?_
    intro _ hw'
    obtain ⟨⟨nq,osq⟩,hw''⟩:=hw'
    subst hw''
    replace HBX:=hide (andthen HBX.out (below_regrown W nq osq))
    go_wp2_with fail
    go_ret
    exact ⟨rfl,HBX.out⟩
   ·cases h4 : Ev.exB x
    ·simp only [Bool.true_and,Bool.false_and]
     have H1:=hide h1
     have H2:=hide h2
     have H3:=hide h3
     have H4:=hide h4
     clear h1 h2 h3 h4
     go_enter Tryz.func81,Tryz.ntmps81
     go_wp2_with fail
     generalize w.alloc (.cells #[.int .i64 s,.int .i64 l,.int .i64 fr,.int .i64 ev,.int .i64 ct,.int .i64 un,.slice D ds.length dc,.slice M ms.length mc,.slice Y ys.length yc,.slice X x.length xc] 91) = W at *
     have f0:=fun d os => cell_regrown s0 d os
     have f1:=fun d os => cell_regrown s1 d os
     have f2:=fun d os => cell_regrown s2 d os
     have f3:=fun d os => cell_regrown s3 d os
     have f4:=fun d os => cell_regrown s4 d os
     have f5:=fun d os => cell_regrown s5 d os
     have f6:=fun d os => cell_regrown s6 d os
     have f7:=fun d os => cell_regrown s7 d os
     have f8:=fun d os => cell_regrown s8 d os
     have f9:=fun d os => cell_regrown s9 d os
     have L1:=hide (fun d os => Lies.keep HR.out (below_regrown W d os))
     have L2:=hide (fun d os => RowI.keep HX.out (below_regrown W d os))
     clear HR HX s0 s1 s2 s3 s4 s5 s6 s7 s8 s9
     refine wp_region_quiet_below (by kernel_rfl) (by kernel_rfl) ?_
     repeat (first | go_big_quiet_step ((first | (go_at_call 97; exact Calls.regrown_of (isMinute_at s true _ H1.out)) | (go_at_call 98; exact Calls.regrown_of (isLong_at l true _ H2.out)) | (go_at_call 83; exact Calls.regrown_of (ans_is (ruleIs_any fr ev ct un D M Y _ dc _ mc _ yc ds ms ys _ (L1.out _ _)) H3.out)) | (go_at_call 99; exact Calls.regrown_of (areExcept_at X _ xc x false _ (L2.out _ _) rfl (by omega) H4.out)))) | quiet_step ((first | (go_at_call 97; exact Calls.regrown_of (isMinute_at s true _ H1.out)) | (go_at_call 98; exact Calls.regrown_of (isLong_at l true _ H2.out)) | (go_at_call 83; exact Calls.regrown_of (ans_is (ruleIs_any fr ev ct un D M Y _ dc _ mc _ yc ds ms ys _ (L1.out _ _)) H3.out)) | (go_at_call 99; exact Calls.regrown_of (areExcept_at X _ xc x false _ (L2.out _ _) rfl (by omega) H4.out)))))
     refine wpQuiet_nil ?_
     intro _ hw'
     obtain ⟨⟨nq,osq⟩,hw''⟩:=hw'
     subst hw''
     replace HBX:=hide (andthen HBX.out (below_regrown W nq osq))
     go_wp2_with fail
     go_ret
     exact ⟨rfl,HBX.out⟩
    ·by_cases h5 : x.length = 0
     ·simp only [Bool.true_and,decide_eq_true h5,Bool.true_or]
      have H1:=hide h1
      have H2:=hide h2
      have H3:=hide h3
      have H4:=hide h4
      have q0 : ((x.length : Int) == 0) = true:=by rw [beq_iff_eq]; omega
      have q1 : (x.length == 0) = true:=by rw [beq_iff_eq]; omega
      clear h1 h2 h3 h4 h5
      go_enter Tryz.func81,Tryz.ntmps81
      go_wp2_with fail
      generalize w.alloc (.cells #[.int .i64 s,.int .i64 l,.int .i64 fr,.int .i64 ev,.int .i64 ct,.int .i64 un,.slice D ds.length dc,.slice M ms.length mc,.slice Y ys.length yc,.slice X x.length xc] 91) = W at *
      have f0:=fun d os => cell_regrown s0 d os
      have f1:=fun d os => cell_regrown s1 d os
      have f2:=fun d os => cell_regrown s2 d os
      have f3:=fun d os => cell_regrown s3 d os
      have f4:=fun d os => cell_regrown s4 d os
      have f5:=fun d os => cell_regrown s5 d os
      have f6:=fun d os => cell_regrown s6 d os
      have f7:=fun d os => cell_regrown s7 d os
      have f8:=fun d os => cell_regrown s8 d os
      have f9:=fun d os => cell_regrown s9 d os
      have L1:=hide (fun d os => Lies.keep HR.out (below_regrown W d os))
      have L2:=hide (fun d os => RowI.keep HX.out (below_regrown W d os))
      clear HR HX s0 s1 s2 s3 s4 s5 s6 s7 s8 s9
      refine wp_region_quiet_below (by kernel_rfl) (by kernel_rfl) ?_
      repeat (first | go_big_quiet_step ((first | (go_at_call 97; exact Calls.regrown_of (isMinute_at s true _ H1.out)) | (go_at_call 98; exact Calls.regrown_of (isLong_at l true _ H2.out)) | (go_at_call 83; exact Calls.regrown_of (ans_is (ruleIs_any fr ev ct un D M Y _ dc _ mc _ yc ds ms ys _ (L1.out _ _)) H3.out)) | (go_at_call 99; exact Calls.regrown_of (areExcept_at X _ xc x true _ (L2.out _ _) rfl (by omega) H4.out)))) | quiet_step ((first | (go_at_call 97; exact Calls.regrown_of (isMinute_at s true _ H1.out)) | (go_at_call 98; exact Calls.regrown_of (isLong_at l true _ H2.out)) | (go_at_call 83; exact Calls.regrown_of (ans_is (ruleIs_any fr ev ct un D M Y _ dc _ mc _ yc ds ms ys _ (L1.out _ _)) H3.out)) | (go_at_call 99; exact Calls.regrown_of (areExcept_at X _ xc x true _ (L2.out _ _) rfl (by omega) H4.out)))))
      refine wpQuiet_nil ?_
      intro _ hw'
      obtain ⟨⟨nq,osq⟩,hw''⟩:=hw'
      subst hw''
      replace HBX:=hide (andthen HBX.out (below_regrown W nq osq))
      go_wp2_with fail
      go_ret
      exact ⟨rfl,HBX.out⟩
     ·cases h6 : sameB ⟨fr,ev,ct,un,ds,ms,ys⟩ once
      ·simp only [Bool.true_and,decide_eq_false h5,Bool.false_or,Bool.not_false]
       have H1:=hide h1
       have H2:=hide h2
       have H3:=hide h3
       have H4:=hide h4
       have q0 : ((x.length : Int) == 0) = false:=by rw [beq_eq_false_iff_ne]; omega
       have q1 : (x.length == 0) = false:=by rw [beq_eq_false_iff_ne]; omega
       have H6:=hide h6
       clear h1 h2 h3 h4 h5 h6
       go_enter Tryz.func81,Tryz.ntmps81
       go_wp2_with fail
       generalize w.alloc (.cells #[.int .i64 s,.int .i64 l,.int .i64 fr,.int .i64 ev,.int .i64 ct,.int .i64 un,.slice D ds.length dc,.slice M ms.length mc,.slice Y ys.length yc,.slice X x.length xc] 91) = W at *
       have f0:=fun d os => cell_regrown s0 d os
       have f1:=fun d os => cell_regrown s1 d os
       have f2:=fun d os => cell_regrown s2 d os
       have f3:=fun d os => cell_regrown s3 d os
       have f4:=fun d os => cell_regrown s4 d os
       have f5:=fun d os => cell_regrown s5 d os
       have f6:=fun d os => cell_regrown s6 d os
       have f7:=fun d os => cell_regrown s7 d os
       have f8:=fun d os => cell_regrown s8 d os
       have f9:=fun d os => cell_regrown s9 d os
       have L1:=hide (fun d os => Lies.keep HR.out (below_regrown W d os))
       have L2:=hide (fun d os => RowI.keep HX.out (below_regrown W d os))
       clear HR HX s0 s1 s2 s3 s4 s5 s6 s7 s8 s9
       refine wp_region_quiet_below (by kernel_rfl) (by kernel_rfl) ?_
       repeat (first | go_big_quiet_step ((first | (go_at_call 97; exact Calls.regrown_of (isMinute_at s true _ H1.out)) | (go_at_call 98; exact Calls.regrown_of (isLong_at l true _ H2.out)) | (go_at_call 83; exact Calls.regrown_of (ans_is (ruleIs_any fr ev ct un D M Y _ dc _ mc _ yc ds ms ys _ (L1.out _ _)) H3.out)) | (go_at_call 99; exact Calls.regrown_of (areExcept_at X _ xc x true _ (L2.out _ _) rfl (by omega) H4.out)) | (go_at_call 101; exact Calls.regrown_of (once_any _)) | (go_at_call 100; exact Calls.regrown_of (ans_is (same_any fr ev ct un D M Y _ dc _ mc _ yc 0 0 0 (-1) none none none 0 0 0 0 0 0 ds ms ys [] [] [] _ (L1.out _ _) (lies_once _)) H6.out)))) | quiet_step ((first | (go_at_call 97; exact Calls.regrown_of (isMinute_at s true _ H1.out)) | (go_at_call 98; exact Calls.regrown_of (isLong_at l true _ H2.out)) | (go_at_call 83; exact Calls.regrown_of (ans_is (ruleIs_any fr ev ct un D M Y _ dc _ mc _ yc ds ms ys _ (L1.out _ _)) H3.out)) | (go_at_call 99; exact Calls.regrown_of (areExcept_at X _ xc x true _ (L2.out _ _) rfl (by omega) H4.out)) | (go_at_call 101; exact Calls.regrown_of (once_any _)) | (go_at_call 100; exact Calls.regrown_of (ans_is (same_any fr ev ct un D M Y _ dc _ mc _ yc 0 0 0 (-1) none none none 0 0 0 0 0 0 ds ms ys [] [] [] _ (L1.out _ _) (lies_once _)) H6.out)))))
       refine wpQuiet_nil ?_
       intro _ hw'
       obtain ⟨⟨nq,osq⟩,hw''⟩:=hw'
       subst hw''
       replace HBX:=hide (andthen HBX.out (below_regrown W nq osq))
       go_wp2_with fail
       go_ret
       exact ⟨rfl,HBX.out⟩
      ·simp only [Bool.true_and,decide_eq_false h5,Bool.false_or,Bool.not_true]
       have H1:=hide h1
       have H2:=hide h2
       have H3:=hide h3
       have H4:=hide h4
       have q0 : ((x.length : Int) == 0) = false:=by rw [beq_eq_false_iff_ne]; omega
       have q1 : (x.length == 0) = false:=by rw [beq_eq_false_iff_ne]; omega
       have H6:=hide h6
       clear h1 h2 h3 h4 h5 h6
       go_enter Tryz.func81,Tryz.ntmps81
       go_wp2_with fail
       generalize w.alloc (.cells #[.int .i64 s,.int .i64 l,.int .i64 fr,.int .i64 ev,.int .i64 ct,.int .i64 un,.slice D ds.length dc,.slice M ms.length mc,.slice Y ys.length yc,.slice X x.length xc] 91) = W at *
       have f0:=fun d os => cell_regrown s0 d os
       have f1:=fun d os => cell_regrown s1 d os
       have f2:=fun d os => cell_regrown s2 d os
       have f3:=fun d os => cell_regrown s3 d os
       have f4:=fun d os => cell_regrown s4 d os
       have f5:=fun d os => cell_regrown s5 d os
       have f6:=fun d os => cell_regrown s6 d os
       have f7:=fun d os => cell_regrown s7 d os
       have f8:=fun d os => cell_regrown s8 d os
       have f9:=fun d os => cell_regrown s9 d os
       have L1:=hide (fun d os => Lies.keep HR.out (below_regrown W d os))
       have L2:=hide (fun d os => RowI.keep HX.out (below_regrown W d os))
       clear HR HX s0 s1 s2 s3 s4 s5 s6 s7 s8 s9
       refine wp_region_quiet_below (by kernel_rfl) (by kernel_rfl) ?_
       repeat (first | go_big_quiet_step ((first | (go_at_call 97; exact Calls.regrown_of (isMinute_at s true _ H1.out)) | (go_at_call 98; exact Calls.regrown_of (isLong_at l true _ H2.out)) | (go_at_call 83; exact Calls.regrown_of (ans_is (ruleIs_any fr ev ct un D M Y _ dc _ mc _ yc ds ms ys _ (L1.out _ _)) H3.out)) | (go_at_call 99; exact Calls.regrown_of (areExcept_at X _ xc x true _ (L2.out _ _) rfl (by omega) H4.out)) | (go_at_call 101; exact Calls.regrown_of (once_any _)) | (go_at_call 100; exact Calls.regrown_of (ans_is (same_any fr ev ct un D M Y _ dc _ mc _ yc 0 0 0 (-1) none none none 0 0 0 0 0 0 ds ms ys [] [] [] _ (L1.out _ _) (lies_once _)) H6.out)))) | quiet_step ((first | (go_at_call 97; exact Calls.regrown_of (isMinute_at s true _ H1.out)) | (go_at_call 98; exact Calls.regrown_of (isLong_at l true _ H2.out)) | (go_at_call 83; exact Calls.regrown_of (ans_is (ruleIs_any fr ev ct un D M Y _ dc _ mc _ yc ds ms ys _ (L1.out _ _)) H3.out)) | (go_at_call 99; exact Calls.regrown_of (areExcept_at X _ xc x true _ (L2.out _ _) rfl (by omega) H4.out)) | (go_at_call 101; exact Calls.regrown_of (once_any _)) | (go_at_call 100; exact Calls.regrown_of (ans_is (same_any fr ev ct un D M Y _ dc _ mc _ yc 0 0 0 (-1) none none none 0 0 0 0 0 0 ds ms ys [] [] [] _ (L1.out _ _) (lies_once _)) H6.out)))))
       refine wpQuiet_nil ?_
       intro _ hw'
       obtain ⟨⟨nq,osq⟩,hw''⟩:=hw'
       subst hw''
       replace HBX:=hide (andthen HBX.out (below_regrown W nq osq))
       go_wp2_with fail
       go_ret
       exact ⟨rfl,HBX.out⟩
theorem times_at (e : Ev.E) (m : Mem) (b : Bool) (w : World) (h : EvL w e m) (hb : Ev.timesB e = b) :
  Calls Tryz.prog 81 #[.agg #[.int .i64 e.st,.int .i64 e.lg,.int .i64 e.r.fr,.int .i64 e.r.ev,.int .i64 e.r.ct,.int .i64 e.r.un,.slice m.D e.r.ds.length m.dc,.slice m.M e.r.ms.length m.mc,.slice m.Y e.r.ys.length m.yc,.slice m.X e.ex.length m.xc]] w (Ans w (.bool b)):=by subst hb; exact times_any e m w h
theorem words_at (u t : Tx) (b : Bool) (w : World) (hu : u.length <= 40000) (ht : t.length <= 40000) (h : (Ev.uidB u && Ev.textB t) = b) :
  Calls Tryz.prog 80 #[.agg #[.string (str u),.string (str t)]] w (Ans w (.bool b)):=by subst h; exact words_any u t w hu ht
theorem valid_any (e : Ev.E) (m : Mem) (w : World) (h : EvL w e m) :
  Calls Tryz.prog 66 #[paV e m] w (Ans w (.bool (Ev.isE e))):=by
 have HBX:=hide (more (start w) (.cells #[.string (str e.uid),.string (str e.text),.int .i64 e.st,.int .i64 e.lg,.int .i64 e.r.fr,.int .i64 e.r.ev,.int .i64 e.r.ct,.int .i64 e.r.un,.slice m.D e.r.ds.length m.dc,.slice m.M e.r.ms.length m.mc,.slice m.Y e.r.ys.length m.yc,.slice m.X e.ex.length m.xc,.slice m.O e.rooms.length m.oc] 95))
 have H0 : Ev.isE e = (Ev.wordsB e && (Ev.timesB e && Ev.roomsB e.rooms)):=rfl
 rw [H0]
 clear H0
 have HL:=hide (h.keep HBX.out)
 have hul:=h.ul
 have htl:=h.tl
 have hol:=h.ol
 have key : ∀ (bw bt : Bool),Ev.wordsB e = bw -> Ev.timesB e = bt -> Calls Tryz.prog 66 #[paV e m] w (Ans w (.bool (bw && (bt && Ev.roomsB e.rooms)))):=by
  intro bw bt h1 h2
  have C1:=hide (fun w => words_at e.uid e.text bw w hul htl h1)
  have C2:=hide (fun w h => times_at e m bt w h h2)
  have C3:=hide (fun w h => areRooms_any m.O _ m.oc e.rooms w h rfl (by omega))
  clear h1 h2 h
  generalize Ev.roomsB e.rooms = RB at *
  obtain ⟨u,t,s,l,o,⟨fr,ev,ct,un,ds,ms,ys⟩,x⟩:=e
  obtain ⟨O,oc,D,dc,M,mc,Y,yc,X,xc⟩:=m
  simp only [paV] at HBX HL C1 C2 C3 ⊢
  generalize str u = U at *
  generalize str t = T at *
  have HT:=hide (fun w (h : EvL w ⟨u,t,s,l,o,⟨fr,ev,ct,un,ds,ms,ys⟩,x⟩ ⟨O,oc,D,dc,M,mc,Y,yc,X,xc⟩) => h.o)
  simp only at HT
  have s0:=cell_new w #[.string U,.string T,.int .i64 s,.int .i64 l,.int .i64 fr,.int .i64 ev,.int .i64 ct,.int .i64 un,.slice D ds.length dc,.slice M ms.length mc,.slice Y ys.length yc,.slice X x.length xc,.slice O o.length oc] 95 0 _ rfl
  have s1:=cell_new w #[.string U,.string T,.int .i64 s,.int .i64 l,.int .i64 fr,.int .i64 ev,.int .i64 ct,.int .i64 un,.slice D ds.length dc,.slice M ms.length mc,.slice Y ys.length yc,.slice X x.length xc,.slice O o.length oc] 95 1 _ rfl
  have s2:=cell_new w #[.string U,.string T,.int .i64 s,.int .i64 l,.int .i64 fr,.int .i64 ev,.int .i64 ct,.int .i64 un,.slice D ds.length dc,.slice M ms.length mc,.slice Y ys.length yc,.slice X x.length xc,.slice O o.length oc] 95 2 _ rfl
  have s3:=cell_new w #[.string U,.string T,.int .i64 s,.int .i64 l,.int .i64 fr,.int .i64 ev,.int .i64 ct,.int .i64 un,.slice D ds.length dc,.slice M ms.length mc,.slice Y ys.length yc,.slice X x.length xc,.slice O o.length oc] 95 3 _ rfl
  have s4:=cell_new w #[.string U,.string T,.int .i64 s,.int .i64 l,.int .i64 fr,.int .i64 ev,.int .i64 ct,.int .i64 un,.slice D ds.length dc,.slice M ms.length mc,.slice Y ys.length yc,.slice X x.length xc,.slice O o.length oc] 95 4 _ rfl
  have s5:=cell_new w #[.string U,.string T,.int .i64 s,.int .i64 l,.int .i64 fr,.int .i64 ev,.int .i64 ct,.int .i64 un,.slice D ds.length dc,.slice M ms.length mc,.slice Y ys.length yc,.slice X x.length xc,.slice O o.length oc] 95 5 _ rfl
  have s6:=cell_new w #[.string U,.string T,.int .i64 s,.int .i64 l,.int .i64 fr,.int .i64 ev,.int .i64 ct,.int .i64 un,.slice D ds.length dc,.slice M ms.length mc,.slice Y ys.length yc,.slice X x.length xc,.slice O o.length oc] 95 6 _ rfl
  have s7:=cell_new w #[.string U,.string T,.int .i64 s,.int .i64 l,.int .i64 fr,.int .i64 ev,.int .i64 ct,.int .i64 un,.slice D ds.length dc,.slice M ms.length mc,.slice Y ys.length yc,.slice X x.length xc,.slice O o.length oc] 95 7 _ rfl
  have s8:=cell_new w #[.string U,.string T,.int .i64 s,.int .i64 l,.int .i64 fr,.int .i64 ev,.int .i64 ct,.int .i64 un,.slice D ds.length dc,.slice M ms.length mc,.slice Y ys.length yc,.slice X x.length xc,.slice O o.length oc] 95 8 _ rfl
  have s9:=cell_new w #[.string U,.string T,.int .i64 s,.int .i64 l,.int .i64 fr,.int .i64 ev,.int .i64 ct,.int .i64 un,.slice D ds.length dc,.slice M ms.length mc,.slice Y ys.length yc,.slice X x.length xc,.slice O o.length oc] 95 9 _ rfl
  have s10:=cell_new w #[.string U,.string T,.int .i64 s,.int .i64 l,.int .i64 fr,.int .i64 ev,.int .i64 ct,.int .i64 un,.slice D ds.length dc,.slice M ms.length mc,.slice Y ys.length yc,.slice X x.length xc,.slice O o.length oc] 95 10 _ rfl
  have s11:=cell_new w #[.string U,.string T,.int .i64 s,.int .i64 l,.int .i64 fr,.int .i64 ev,.int .i64 ct,.int .i64 un,.slice D ds.length dc,.slice M ms.length mc,.slice Y ys.length yc,.slice X x.length xc,.slice O o.length oc] 95 11 _ rfl
  have s12:=cell_new w #[.string U,.string T,.int .i64 s,.int .i64 l,.int .i64 fr,.int .i64 ev,.int .i64 ct,.int .i64 un,.slice D ds.length dc,.slice M ms.length mc,.slice Y ys.length yc,.slice X x.length xc,.slice O o.length oc] 95 12 _ rfl
  cases bw
  ·clear C2 C3 HT HL s2 s3 s4 s5 s6 s7 s8 s9 s10 s11 s12
   go_enter Tryz.func66,Tryz.ntmps66
   go_wp2_with fail
   refine (C1.out _).mono ?_
   rintro e w1 ⟨rfl,hb⟩
   replace HBX:=hide (andthen HBX.out hb)
   clear hb
   go_wp2_with fail
   go_ret
   exact ⟨rfl,HBX.out⟩
  cases bt
  ·go_enter Tryz.func66,Tryz.ntmps66
   go_wp2_with fail
   refine (C1.out _).mono ?_
   rintro e w1 ⟨rfl,hb⟩
   replace HBX:=hide (andthen HBX.out hb)
   replace HL:=hide (HL.out.keep hb)
   replace s2:=cell_keep hb s2
   replace s3:=cell_keep hb s3
   replace s4:=cell_keep hb s4
   replace s5:=cell_keep hb s5
   replace s6:=cell_keep hb s6
   replace s7:=cell_keep hb s7
   replace s8:=cell_keep hb s8
   replace s9:=cell_keep hb s9
   replace s10:=cell_keep hb s10
   replace s11:=cell_keep hb s11
   replace s12:=cell_keep hb s12
   clear hb
   go_wp2_with fail
   refine (C2.out _ HL.out).mono ?_
   rintro e w2 ⟨rfl,hb⟩
   replace HBX:=hide (andthen HBX.out hb)
   clear hb
   go_wp2_with fail
   go_ret
   exact ⟨rfl,HBX.out⟩
  ·go_enter Tryz.func66,Tryz.ntmps66
   go_wp2_with fail
   refine (C1.out _).mono ?_
   rintro e w1 ⟨rfl,hb⟩
   replace HBX:=hide (andthen HBX.out hb)
   replace HL:=hide (HL.out.keep hb)
   replace s2:=cell_keep hb s2
   replace s3:=cell_keep hb s3
   replace s4:=cell_keep hb s4
   replace s5:=cell_keep hb s5
   replace s6:=cell_keep hb s6
   replace s7:=cell_keep hb s7
   replace s8:=cell_keep hb s8
   replace s9:=cell_keep hb s9
   replace s10:=cell_keep hb s10
   replace s11:=cell_keep hb s11
   replace s12:=cell_keep hb s12
   clear hb
   go_wp2_with fail
   refine (C2.out _ HL.out).mono ?_
   rintro e w2 ⟨rfl,hb⟩
   replace HBX:=hide (andthen HBX.out hb)
   replace HL:=hide (HL.out.keep hb)
   replace s12:=cell_keep hb s12
   clear hb
   go_wp2_with fail
   refine (C3.out _ (HT.out _ HL.out)).mono ?_
   rintro e w3 ⟨rfl,hb⟩
   replace HBX:=hide (andthen HBX.out hb)
   clear hb
   go_wp2_with fail
   go_ret
   exact ⟨rfl,HBX.out⟩
 exact key _ _ rfl rfl
theorem partsOf_flat (U T : ByteArray) (s l fr ev ct un : Int) (O D M Y X : Option Addr) (on oc dn dc mn mc yn yc xn xc : Nat) (w : World) :
  Calls Tryz.prog 65 #[.agg #[.string U,.string T,.int .i64 s,.int .i64 l,.slice O on oc,.int .i64 fr,.int .i64 ev,.int .i64 ct,.int .i64 un,.slice D dn dc,.slice M mn mc,.slice Y yn yc,.slice X xn xc]] w (Ans w (.agg #[.string U,.string T,.int .i64 s,.int .i64 l,.int .i64 fr,.int .i64 ev,.int .i64 ct,.int .i64 un,.slice D dn dc,.slice M mn mc,.slice Y yn yc,.slice X xn xc,.slice O on oc])):=by
 go_enter Tryz.func65,Tryz.ntmps65
 go_wp2_with fail
 exact bodyPost_ret (v:=.agg #[.string U,.string T,.int .i64 s,.int .i64 l,.int .i64 fr,.int .i64 ev,.int .i64 ct,.int .i64 un,.slice D dn dc,.slice M mn mc,.slice Y yn yc,.slice X xn xc,.slice O on oc]) (by simp [results,Tryz.results65,go_sem]) rfl ⟨rfl,more (more (start _) _) _⟩
theorem eIs_any (e : Ev.E) (m : Mem) (w : World) (h : EvL w e m) :
  Calls Tryz.prog 49 #[evV e m] w (Ans w (.bool (Ev.isE e))):=by
 have HBX:=hide (more (start w) (.cells #[.string (str e.uid),.string (str e.text),.int .i64 e.st,.int .i64 e.lg,.slice m.O e.rooms.length m.oc,.int .i64 e.r.fr,.int .i64 e.r.ev,.int .i64 e.r.ct,.int .i64 e.r.un,.slice m.D e.r.ds.length m.dc,.slice m.M e.r.ms.length m.mc,.slice m.Y e.r.ys.length m.yc,.slice m.X e.ex.length m.xc] 41))
 have HL:=hide (h.keep HBX.out)
 have HV:=hide (fun w h => valid_any e m w h)
 clear h
 generalize Ev.isE e = RB at *
 obtain ⟨u,t,s,l,o,⟨fr,ev,ct,un,ds,ms,ys⟩,x⟩:=e
 obtain ⟨O,oc,D,dc,M,mc,Y,yc,X,xc⟩:=m
 simp only [evV,paV] at HBX HL HV ⊢
 generalize str u = U at *
 generalize str t = T at *
 have s0:=cell_new w #[.string U,.string T,.int .i64 s,.int .i64 l,.slice O o.length oc,.int .i64 fr,.int .i64 ev,.int .i64 ct,.int .i64 un,.slice D ds.length dc,.slice M ms.length mc,.slice Y ys.length yc,.slice X x.length xc] 41 0 _ rfl
 have s1:=cell_new w #[.string U,.string T,.int .i64 s,.int .i64 l,.slice O o.length oc,.int .i64 fr,.int .i64 ev,.int .i64 ct,.int .i64 un,.slice D ds.length dc,.slice M ms.length mc,.slice Y ys.length yc,.slice X x.length xc] 41 1 _ rfl
 have s2:=cell_new w #[.string U,.string T,.int .i64 s,.int .i64 l,.slice O o.length oc,.int .i64 fr,.int .i64 ev,.int .i64 ct,.int .i64 un,.slice D ds.length dc,.slice M ms.length mc,.slice Y ys.length yc,.slice X x.length xc] 41 2 _ rfl
 have s3:=cell_new w #[.string U,.string T,.int .i64 s,.int .i64 l,.slice O o.length oc,.int .i64 fr,.int .i64 ev,.int .i64 ct,.int .i64 un,.slice D ds.length dc,.slice M ms.length mc,.slice Y ys.length yc,.slice X x.length xc] 41 3 _ rfl
 have s4:=cell_new w #[.string U,.string T,.int .i64 s,.int .i64 l,.slice O o.length oc,.int .i64 fr,.int .i64 ev,.int .i64 ct,.int .i64 un,.slice D ds.length dc,.slice M ms.length mc,.slice Y ys.length yc,.slice X x.length xc] 41 4 _ rfl
 have s5:=cell_new w #[.string U,.string T,.int .i64 s,.int .i64 l,.slice O o.length oc,.int .i64 fr,.int .i64 ev,.int .i64 ct,.int .i64 un,.slice D ds.length dc,.slice M ms.length mc,.slice Y ys.length yc,.slice X x.length xc] 41 5 _ rfl
 have s6:=cell_new w #[.string U,.string T,.int .i64 s,.int .i64 l,.slice O o.length oc,.int .i64 fr,.int .i64 ev,.int .i64 ct,.int .i64 un,.slice D ds.length dc,.slice M ms.length mc,.slice Y ys.length yc,.slice X x.length xc] 41 6 _ rfl
 have s7:=cell_new w #[.string U,.string T,.int .i64 s,.int .i64 l,.slice O o.length oc,.int .i64 fr,.int .i64 ev,.int .i64 ct,.int .i64 un,.slice D ds.length dc,.slice M ms.length mc,.slice Y ys.length yc,.slice X x.length xc] 41 7 _ rfl
 have s8:=cell_new w #[.string U,.string T,.int .i64 s,.int .i64 l,.slice O o.length oc,.int .i64 fr,.int .i64 ev,.int .i64 ct,.int .i64 un,.slice D ds.length dc,.slice M ms.length mc,.slice Y ys.length yc,.slice X x.length xc] 41 8 _ rfl
 have s9:=cell_new w #[.string U,.string T,.int .i64 s,.int .i64 l,.slice O o.length oc,.int .i64 fr,.int .i64 ev,.int .i64 ct,.int .i64 un,.slice D ds.length dc,.slice M ms.length mc,.slice Y ys.length yc,.slice X x.length xc] 41 9 _ rfl
 have s10:=cell_new w #[.string U,.string T,.int .i64 s,.int .i64 l,.slice O o.length oc,.int .i64 fr,.int .i64 ev,.int .i64 ct,.int .i64 un,.slice D ds.length dc,.slice M ms.length mc,.slice Y ys.length yc,.slice X x.length xc] 41 10 _ rfl
 have s11:=cell_new w #[.string U,.string T,.int .i64 s,.int .i64 l,.slice O o.length oc,.int .i64 fr,.int .i64 ev,.int .i64 ct,.int .i64 un,.slice D ds.length dc,.slice M ms.length mc,.slice Y ys.length yc,.slice X x.length xc] 41 11 _ rfl
 have s12:=cell_new w #[.string U,.string T,.int .i64 s,.int .i64 l,.slice O o.length oc,.int .i64 fr,.int .i64 ev,.int .i64 ct,.int .i64 un,.slice D ds.length dc,.slice M ms.length mc,.slice Y ys.length yc,.slice X x.length xc] 41 12 _ rfl
 go_enter Tryz.func49,Tryz.ntmps49
 go_wp2_with fail
 refine (partsOf_flat _ _ _ _ _ _ _ _ _ _ _ _ _ _ _ _ _ _ _ _ _ _ _ _).mono ?_
 rintro e w1 ⟨rfl,hb⟩
 replace HBX:=hide (andthen HBX.out hb)
 replace HL:=hide (HL.out.keep hb)
 clear hb s0 s1 s2 s3 s4 s5 s6 s7 s8 s9 s10 s11 s12
 go_wp2_with fail
 refine (HV.out _ HL.out).mono ?_
 rintro e w2 ⟨rfl,hb⟩
 replace HBX:=hide (andthen HBX.out hb)
 clear hb
 go_wp2_with fail
 go_ret
 exact ⟨rfl,HBX.out⟩
end Go.Proofs.YtgihekokbgggcaaGreat
